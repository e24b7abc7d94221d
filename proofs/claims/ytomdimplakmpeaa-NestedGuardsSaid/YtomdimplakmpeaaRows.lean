/-
  No cell of these rows narrows 'for every input' (looked for: loops, veiled, ifaces, maps, wideKeys, modest, calm, conditions, laid).
  DERIVED. THE GIVEN ROWS OF THIS SEAT. 5 by the template 'for every input the law returns true; each argument reads behind the call as it read before'; 0 by the template 'total and deterministic' (their statements: YtomdimplakmpeaaTotals.lean).
  GIVEN WITH THE SEED: the statements are not yours to turn. If you find one false, say at which input.
  Laid BY PROGRAM, IN A SANDBOX (cutbox-rows.mjs): the forced cells as the released guide's own fill.sh prints them over the translation 5459c73edf1a48f2… (all of the seat's roots in one cut). By AI agents, Wed Nov 11 2026. No macro, syntax, notation, axiom, sorry.
-/
import Derived.Test.YtomdimplakmpeaaChecked
import GoSem.Claim
import GoSem.ClaimJoined
import GoSem.ClaimMapViews
import Derived.JoinedTies
import Derived.KernelRfl
namespace Go.Proofs.Ytomdimplakmpeaa
/- THE CELL 'sum', in the pinned program and in every row, IS THE sha256 OF THE DUMP (.gsa) THAT YtomdimplakmpeaaProg.lean LOADS. Nothing in Lean hashes anything: it is a label: what it is worth is what the hold of that sum in a sandbox is worth. -/
noncomputable def Try.pinned : Pinned := { name := "ytomdimplakmpeaa", sum := "5459c73edf1a48f29cb8134bb53a6553a27797706dcae30d1a058d11cdc5798a", checked := Try.checked }
namespace Rows
def none {H : Type} : Left H := { results := [], args := [] }

/-- 'innkeeperlaw6.NestedNumbers': WHATEVER THE INPUT: true; the input reads as it did. -/
def nestedNumbersSpec : ChangeSpec := { name := "nestedNumbers", fn := fun _ => fun
  | [] => { results := [.lit (.bool true)], args := [] }
  | _ => none }
def nestedNumbersRow : OpenClaim := { program := "ytomdimplakmpeaa", sum := "5459c73edf1a48f29cb8134bb53a6553a27797706dcae30d1a058d11cdc5798a", func := "innkeeper/innkeeperlaw6.NestedNumbers", spec := "nestedNumbers", apart := false }
def NestedNumbersSaid : Prop := nestedNumbersRow.holds Try.pinned (OpenSpec.ofChange nestedNumbersSpec)

/-- ITS FALSE NEIGHBOUR: 'it returns false'. Refute it at one input. -/
def nestedNumbersWrong : ChangeSpec := { name := "nestedNumbers", fn := fun _ => fun
  | [] => { results := [.lit (.bool false)], args := [] }
  | _ => none }
def NestedNumbersWrongFalsely : Prop := nestedNumbersRow.holds Try.pinned (OpenSpec.ofChange nestedNumbersWrong)

/-- 'innkeeperlaw6.NestedPlays': WHATEVER THE INPUT: true; the input reads as it did. -/
def nestedPlaysSpec : ChangeSpec := { name := "nestedPlays", fn := fun _ => fun
  | [d1, d2, d3] => { results := [.lit (.bool true)], args := [d1, d2, d3] }
  | _ => none }
def nestedPlaysRow : OpenClaim := { program := "ytomdimplakmpeaa", sum := "5459c73edf1a48f29cb8134bb53a6553a27797706dcae30d1a058d11cdc5798a", func := "innkeeper/innkeeperlaw6.NestedPlays", spec := "nestedPlays", apart := false }
def NestedPlaysSaid : Prop := nestedPlaysRow.holds Try.pinned (OpenSpec.ofChange nestedPlaysSpec)

/-- ITS FALSE NEIGHBOUR: 'it returns false'. Refute it at one input. -/
def nestedPlaysWrong : ChangeSpec := { name := "nestedPlays", fn := fun _ => fun
  | [d1, d2, d3] => { results := [.lit (.bool false)], args := [d1, d2, d3] }
  | _ => none }
def NestedPlaysWrongFalsely : Prop := nestedPlaysRow.holds Try.pinned (OpenSpec.ofChange nestedPlaysWrong)

/-- 'innkeeperlaw6.NestedApart': WHATEVER THE INPUT: true; the input reads as it did. -/
def nestedApartSpec : ChangeSpec := { name := "nestedApart", fn := fun _ => fun
  | [d1, d2] => { results := [.lit (.bool true)], args := [d1, d2] }
  | _ => none }
def nestedApartRow : OpenClaim := { program := "ytomdimplakmpeaa", sum := "5459c73edf1a48f29cb8134bb53a6553a27797706dcae30d1a058d11cdc5798a", func := "innkeeper/innkeeperlaw6.NestedApart", spec := "nestedApart", apart := false }
def NestedApartSaid : Prop := nestedApartRow.holds Try.pinned (OpenSpec.ofChange nestedApartSpec)

/-- ITS FALSE NEIGHBOUR: 'it returns false'. Refute it at one input. -/
def nestedApartWrong : ChangeSpec := { name := "nestedApart", fn := fun _ => fun
  | [d1, d2] => { results := [.lit (.bool false)], args := [d1, d2] }
  | _ => none }
def NestedApartWrongFalsely : Prop := nestedApartRow.holds Try.pinned (OpenSpec.ofChange nestedApartWrong)

/-- 'innkeeperlaw6.NestedGuards': WHATEVER THE INPUT: true; the input reads as it did. -/
def nestedGuardsSpec : ChangeSpec := { name := "nestedGuards", fn := fun _ => fun
  | [d] => { results := [.lit (.bool true)], args := [d] }
  | _ => none }
def nestedGuardsRow : OpenClaim := { program := "ytomdimplakmpeaa", sum := "5459c73edf1a48f29cb8134bb53a6553a27797706dcae30d1a058d11cdc5798a", func := "innkeeper/innkeeperlaw6.NestedGuards", spec := "nestedGuards", apart := false }
def NestedGuardsSaid : Prop := nestedGuardsRow.holds Try.pinned (OpenSpec.ofChange nestedGuardsSpec)

/-- ITS FALSE NEIGHBOUR: 'it returns false'. Refute it at one input. -/
def nestedGuardsWrong : ChangeSpec := { name := "nestedGuards", fn := fun _ => fun
  | [d] => { results := [.lit (.bool false)], args := [d] }
  | _ => none }
def NestedGuardsWrongFalsely : Prop := nestedGuardsRow.holds Try.pinned (OpenSpec.ofChange nestedGuardsWrong)

/-- 'innkeeperlaw6.NestedBack': WHATEVER THE INPUT: true; the input reads as it did. -/
def nestedBackSpec : ChangeSpec := { name := "nestedBack", fn := fun _ => fun
  | [d1, d2] => { results := [.lit (.bool true)], args := [d1, d2] }
  | _ => none }
def nestedBackRow : OpenClaim := { program := "ytomdimplakmpeaa", sum := "5459c73edf1a48f29cb8134bb53a6553a27797706dcae30d1a058d11cdc5798a", func := "innkeeper/innkeeperlaw6.NestedBack", spec := "nestedBack", apart := false }
def NestedBackSaid : Prop := nestedBackRow.holds Try.pinned (OpenSpec.ofChange nestedBackSpec)

/-- ITS FALSE NEIGHBOUR: 'it returns false'. Refute it at one input. -/
def nestedBackWrong : ChangeSpec := { name := "nestedBack", fn := fun _ => fun
  | [d1, d2] => { results := [.lit (.bool false)], args := [d1, d2] }
  | _ => none }
def NestedBackWrongFalsely : Prop := nestedBackRow.holds Try.pinned (OpenSpec.ofChange nestedBackWrong)

/- THE SECOND FORM. 'bulk': how many values and letters a reading holds, each counted each time it is reached (what is shared counts as often as it is met; a slice's spare places count too). A statement '..UptoSaid' is the law's where the arguments, and the package variables that the reading takes, are together of bulk at most 1048576: NARROWER than '..Said'. Prove '..Said' where nothing that the law and all that it calls make is longer than what came in: it says more and counts as full. Else prove '..UptoSaid'. A law counts once. -/
mutual
def uptoBulk {H : Type} : DataW H → Nat
  | .lit (.string bytes) => bytes.length + 1
  | .lit _ => 1
  | .nil => 1
  | .ptr d => uptoBulk d + 1
  | .slice elems spare => uptoBulkAll elems + uptoBulkAll spare + 1
  | .agg parts => uptoBulkAll parts + 1
  | .iface _ d => uptoBulk d + 1
  | .map entries => uptoBulkEntries entries + 1
  | .held _ => 1
def uptoBulkAll {H : Type} : List (DataW H) → Nat
  | [] => 0
  | d :: r => uptoBulk d + uptoBulkAll r
def uptoBulkEntries {H : Type} : List (Lit × DataW H) → Nat
  | [] => 0
  | x :: r => uptoBulkEntry x + uptoBulkEntries r
def uptoBulkEntry {H : Type} : Lit × DataW H → Nat
  | (.string bytes, d) => bytes.length + uptoBulk d + 1
  | (_, d) => uptoBulk d + 1
 end
def uptoSmall : (H : Type) → List (DataW H) → Bool := fun _ ds => decide (uptoBulkAll ds ≤ 1048576)
def OpenSpec.upto (s : _root_.Go.ChangeSpec) : _root_.Go.OpenSpec := { _root_.Go.OpenSpec.ofChange s with cond := some uptoSmall }

/-- 'innkeeperlaw6.NestedNumbers', WHERE WHAT IT READS IS OF BULK AT MOST 1048576: true; the input reads as it did. -/
def nestedNumbersUptoRow : OpenClaim := { program := "ytomdimplakmpeaa", sum := "5459c73edf1a48f29cb8134bb53a6553a27797706dcae30d1a058d11cdc5798a", func := "innkeeper/innkeeperlaw6.NestedNumbers", spec := "nestedNumbers", apart := false, narrowed := true }
def NestedNumbersUptoSaid : Prop := nestedNumbersUptoRow.holds Try.pinned (OpenSpec.upto nestedNumbersSpec)

/-- 'innkeeperlaw6.NestedPlays', WHERE WHAT IT READS IS OF BULK AT MOST 1048576: true; the input reads as it did. -/
def nestedPlaysUptoRow : OpenClaim := { program := "ytomdimplakmpeaa", sum := "5459c73edf1a48f29cb8134bb53a6553a27797706dcae30d1a058d11cdc5798a", func := "innkeeper/innkeeperlaw6.NestedPlays", spec := "nestedPlays", apart := false, narrowed := true }
def NestedPlaysUptoSaid : Prop := nestedPlaysUptoRow.holds Try.pinned (OpenSpec.upto nestedPlaysSpec)

/-- 'innkeeperlaw6.NestedApart', WHERE WHAT IT READS IS OF BULK AT MOST 1048576: true; the input reads as it did. -/
def nestedApartUptoRow : OpenClaim := { program := "ytomdimplakmpeaa", sum := "5459c73edf1a48f29cb8134bb53a6553a27797706dcae30d1a058d11cdc5798a", func := "innkeeper/innkeeperlaw6.NestedApart", spec := "nestedApart", apart := false, narrowed := true }
def NestedApartUptoSaid : Prop := nestedApartUptoRow.holds Try.pinned (OpenSpec.upto nestedApartSpec)

/-- 'innkeeperlaw6.NestedGuards', WHERE WHAT IT READS IS OF BULK AT MOST 1048576: true; the input reads as it did. -/
def nestedGuardsUptoRow : OpenClaim := { program := "ytomdimplakmpeaa", sum := "5459c73edf1a48f29cb8134bb53a6553a27797706dcae30d1a058d11cdc5798a", func := "innkeeper/innkeeperlaw6.NestedGuards", spec := "nestedGuards", apart := false, narrowed := true }
def NestedGuardsUptoSaid : Prop := nestedGuardsUptoRow.holds Try.pinned (OpenSpec.upto nestedGuardsSpec)

/-- 'innkeeperlaw6.NestedBack', WHERE WHAT IT READS IS OF BULK AT MOST 1048576: true; the input reads as it did. -/
def nestedBackUptoRow : OpenClaim := { program := "ytomdimplakmpeaa", sum := "5459c73edf1a48f29cb8134bb53a6553a27797706dcae30d1a058d11cdc5798a", func := "innkeeper/innkeeperlaw6.NestedBack", spec := "nestedBack", apart := false, narrowed := true }
def NestedBackUptoSaid : Prop := nestedBackUptoRow.holds Try.pinned (OpenSpec.upto nestedBackSpec)

end Rows
end Go.Proofs.Ytomdimplakmpeaa

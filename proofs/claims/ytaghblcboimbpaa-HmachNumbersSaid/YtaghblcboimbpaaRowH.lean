/-
  WHAT A WALK IS TOLD OF HOST INSTRUCTIONS THAT CAME IN.
-/
import Derived.Test.YtaghblcboimbpaaHb
import Derived.Test.YtaghblcboimbpaaRow
namespace Go.Proofs.Ytaghblcboimbpaa
open Go.RowKit
set_option linter.unusedSimpArgs false
set_option linter.unusedVariables false

/-- its fields fit their kinds -/
def Hi.In (p : Hi) : Prop := (-9223372036854775808 ≤ p.o ∧ p.o ≤ 9223372036854775807) ∧ (-9223372036854775808 ≤ p.d ∧ p.d ≤ 9223372036854775807) ∧ (-9223372036854775808 ≤ p.a ∧ p.a ≤ 9223372036854775807) ∧ (-9223372036854775808 ≤ p.b ∧ p.b ≤ 9223372036854775807) ∧ p.fit
/-- the slice leads to these instructions -/
def RowI (w : World) (A : Option Addr) (len cap : Nat) (L : List Hi) : Prop :=
  L.length = len ∧ len ≤ cap ∧ cap ≤ maxLen ∧ (A = none → cap = 0) ∧ RdI w w.heap.size A L ∧ ∀ p ∈ L, p.In

theorem IsRow.bytes {w : World} {a : Option Addr} {len cap : Nat} {zs : List Int} (h : IsRow .u8 w a len cap zs) :
    len ≤ cap ∧ cap ≤ maxLen ∧ (a = none → cap = 0) ∧ ∃ l : List UInt8, l.length = len ∧ Rd w w.heap.size a (bv l) := by
  obtain ⟨h1, h2, h3, l, h4, h5, h6⟩ := h.rd
  refine ⟨h1, h2, h3, l.map byt, by simpa using h4, ?_⟩
  have e : bv (l.map byt) = l.map (Value.int .u8) := by
    unfold bv
    rw [List.map_map]
    apply List.map_congr_left
    intro n hn
    obtain ⟨a, b⟩ := u8_of_wf (h5 n hn)
    simp [byt_of n a b]
  rw [e]; exact h6

end Go.Proofs.Ytaghblcboimbpaa

/-
  innkeeperlaw7's fresh and known: A CONTRACT EACH; what a law's walk is told of a memory.
-/
import Derived.Test.YtoejpdhcibbgdaaRt
import Derived.Test.YtoejpdhcibbgdaaSm
import Derived.Test.YtoejpdhcibbgdaaRow
import Derived.Test.YtoejpdhcibbgdaaNum
namespace Go.Proofs.Ytoejpdhcibbgdaa
open Go.RowKit
set_option linter.unusedSimpArgs false
set_option linter.unusedVariables false

/-- all five blocks from B on -/
def Bl.From (p : Bl) (B : Nat) : Prop := B ≤ p.g ∧ B ≤ p.h ∧ B ≤ p.r ∧ B ≤ p.m ∧ B ≤ p.u
/-- another block than these -/
def Bl.Off (p : Bl) (u : Nat) : Prop := p.g ≠ u ∧ p.h ≠ u ∧ p.r ≠ u ∧ p.m ≠ u ∧ p.u ≠ u
theorem IsM.off {w : World} {p : Bl} {X : Rm} (h : IsM w p X) {u : Nat} (hu : w.heap.size ≤ u) : p.Off u := by
  obtain ⟨z1, z2, z3, z4, z5⟩ := h.z
  exact ⟨by omega, by omega, by omega, by omega, by omega⟩
/-- what a law is told: a memory, made since w0 -/
structure Me (w0 : World) (B : Nat) (p : Bl) (w : World) (X : Rm) : Prop where
  m : IsM w p X
  b : Below B w0 w
  f : p.From B
section
variable {w0 w w' : World} {B : Nat} {p : Bl} {X Y : Rm}
theorem Me.keep (d : Me w0 B p w X) (hB : B ≤ w.heap.size) (hb : Below w.heap.size w w') : Me w0 B p w' X :=
  ⟨d.m.below hb, d.b.trans (hb.mono hB), d.f⟩
theorem Me.left (d : Me w0 B p w X) (hB : B ≤ w.heap.size) (hm : IsM w' p Y) (ha : Alt p w w') : Me w0 B p w' Y :=
  ⟨hm, ha.below d.f.1 d.f.2.2.1 d.f.2.2.2.2 d.b hB, d.f⟩
theorem Me.far {u : Nat} (d : Me w0 B p w X) (o : p.Off u) (hu : B ≤ u) (i : Nat) (v : Value) : Me w0 B p (w.setCell ⟨u, i, none⟩ v) X :=
  ⟨d.m.keep (Below.heap_setCell _ _ _ _ o.1) (Below.heap_setCell _ _ _ _ o.2.1) (Below.heap_setCell _ _ _ _ o.2.2.1) (Below.heap_setCell _ _ _ _ o.2.2.2.1) (Below.heap_setCell _ _ _ _ o.2.2.2.2), d.b.setCell hu _, d.f⟩
theorem Me.size (d : Me w0 B p w X) (hB : w0.heap.size = B) : B ≤ w.heap.size := by have := d.b.size; omega
end
/-- a memory of its own -/
def FreshM (n : Nat) (w : World) (e : Ending) (w' : World) : Prop :=
  ∃ p : Bl, e = .returned (.tuple #[.pointer (some ⟨p.m, 0, none⟩), .pointer (some ⟨p.h, 0, none⟩)]) ∧ Me w w.heap.size p w' (rm0 n)
theorem kn1 : ((rm0 2).putS 62 (w4 67305985)).bV 64 = 3 ∧ decide (64 < ((rm0 2).putS 62 (w4 67305985)).n * 64) = true ∧ ((rm0 2).putS 62 (w4 67305985)).wdV 125 = 0 ∧ decide (125 + 4 ≤ ((rm0 2).putS 62 (w4 67305985)).n * 64) = false := by decide +kernel
theorem kn2 : tuL ((rm0 2).putS 62 (w4 67305985)).tu ((rm0 2).putS 62 (w4 67305985)).n = [0, 1] ∧ ((((rm0 2).putS 62 (w4 67305985)).n * 64 : Nat) : Int) = 128 := by decide +kernel
end Go.Proofs.Ytoejpdhcibbgdaa

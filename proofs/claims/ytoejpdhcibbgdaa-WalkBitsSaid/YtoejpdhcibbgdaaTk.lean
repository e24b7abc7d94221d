/-
  nested: Mapped: A CONTRACT.
-/
import Derived.Test.YtoejpdhcibbgdaaTs
import Derived.Test.YtoejpdhcibbgdaaPh
namespace Go.Proofs.Ytoejpdhcibbgdaa
open Go.RowKit
set_option linter.unusedSimpArgs false
set_option linter.unusedVariables false

/-- the pages below k that are mapped -/
def Ta.mapL (T : Ta) (k : Nat) : List Nat := (List.range k).filter fun i => neB (T.fr i)
theorem mapL_succ (T : Ta) (k : Nat) : T.mapL (k + 1) = T.mapL k ++ (if neB (T.fr k) = true then [k] else []) := by
  unfold Ta.mapL
  rw [List.range_succ, List.filter_append]
  cases h : neB (T.fr k) <;> simp [h]
theorem mapL_le (T : Ta) (k : Nat) : (T.mapL k).length ≤ k := by
  have := List.length_filter_le (fun i : Nat => neB (T.fr i)) (List.range k)
  simpa [Ta.mapL] using this
theorem mapL_mem {T : Ta} {k i : Nat} : i ∈ T.mapL k ↔ i < k ∧ 0 ≤ T.fr i := by
  simp [Ta.mapL, neB]
/-- what Mapped answers -/
def Mapd (T : Ta) (w : World) (e : Ending) (w' : World) : Prop :=
  ∃ A c, e = .returned (.slice A (T.mapL T.n).length c) ∧ w'.ownsRow w.heap.size 3 1 (.slice A (T.mapL T.n).length c) (T.mapL T.n).length (nv (T.mapL T.n)) ∧ Below w.heap.size w w'
section
variable {g h r : Nat} {T : Ta}
end
end Go.Proofs.Ytoejpdhcibbgdaa

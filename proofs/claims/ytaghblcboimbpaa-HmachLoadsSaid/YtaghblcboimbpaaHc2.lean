/-
  hcode.used, hcode.Right: A CONTRACT EACH.
-/
import Derived.Test.YtaghblcboimbpaaHc1
import Derived.Deep.Light
namespace Go.Proofs.Ytaghblcboimbpaa
open Go.RowKit
set_option linter.unusedSimpArgs false
set_option linter.unusedVariables false

theorem below_two (w : World) (x y : Obj) : Below w.heap.size w ((w.alloc x).alloc y) := ((Below.refl _ _).alloc (Nat.le_refl _) _).alloc (by simp) _
set_option maxRecDepth 100000 in
set_option maxHeartbeats 4000000 in
theorem used_any (o d a b n : Int) (w : World) :
    Calls Try.prog 41 #[hv o d a b n] w fun e w' => e = .returned (.tuple #[hv (kp (isO o) o) (kp (uD o) d) (kp (uA o) a) (kp (uB o) b) (kp (uN o) n), .bool (isO o)]) ∧ Below w.heap.size w w' := by
  go_enter Try.func41, Try.ntmps41
  go_wp2
  all_goals
    go_light
    refine bodyPost_ret (v := .tuple #[hv (kp (isO o) o) (kp (uD o) d) (kp (uA o) a) (kp (uB o) b) (kp (uN o) n), .bool (isO o)]) ?_ rfl ⟨rfl, below_two _ _ _⟩
    simp [results, Try.results41, go_sem]
    try simp only [beq_iff_eq, beq_eq_false_iff_ne, ne_eq] at *
  all_goals
    unfold kp isO uD uA uB uN
    simp only [decide_eq_true_eq, decide_eq_false_iff_not]
    refine ⟨⟨?_, ?_, ?_, ?_, ?_⟩, ?_⟩ <;> first | omega | (split <;> omega)
end Go.Proofs.Ytaghblcboimbpaa

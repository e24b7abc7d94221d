/-
  gcode's names of operations, and what innkeeperref2 says of operations: A CONTRACT EACH.
-/
import Derived.Test.YtmgjojgjonighaaDoorGc1
namespace Go.Proofs.YtmgjojgjonighaaDoor
open Go.RowKit
set_option linter.unusedSimpArgs false
set_option linter.unusedVariables false

theorem rright_any (op n : Int) (n0 : 0 ≤ n) (w : World) :
    Calls Tryd.prog 27 #[.agg #[.int .i64 op, .int .u32 n]] w fun e w' => e = .returned (.bool (okV op n)) ∧ Below w.heap.size w w' := by
  have h2 : ∃ b, decide (n < 256) = b := ⟨_, rfl⟩
  have h3 : ∃ b, (n == 0) = b := ⟨_, rfl⟩
  obtain ⟨b2, h2⟩ := h2
  obtain ⟨b3, h3⟩ := h3
  have e : okV op n = (decide (szV op = 5) || (decide (szV op = 2) && b2) || (decide (szV op = 1) && b3)) := by
    rw [← h2, ← h3]; unfold okV; rw [Bool.eq_iff_iff]; simp; omega
  rw [e]; clear e
  rcases szV_cases op with h | h | h | h <;> cases b2 <;> cases b3
  all_goals (try (exfalso; simp at h2 h3; omega))
  all_goals
    go_enter Tryd.func27, Tryd.ntmps27
    go_wp2_with (go_at_call 29; refine (rsize_any _ _).mono ?_; rintro e w' ⟨rfl, rfl⟩)
    go_ret
    exact ⟨ret_bool (by simp [h]), (Below.refl _ _).alloc (Nat.le_refl _) _⟩
theorem rends_any (op : Int) (w : World) :
    Calls Tryd.prog 32 #[.int .i64 op] w fun e w' => e = .returned (.bool (enV op)) ∧ w = w' := by
  go_enter Tryd.func32, Tryd.ntmps32
  go_wp2
  all_goals (go_ret; refine ⟨ret_bool ?_, rfl⟩)
  all_goals (rw [Bool.eq_iff_iff]; simp [enV, wiV]; (try simp at *); (try omega))
theorem rsuper_any (op : Int) (w : World) :
    Calls Tryd.prog 34 #[.int .i64 op] w fun e w' => e = .returned (.bool (suV op)) ∧ w = w' := by
  go_enter Tryd.func34, Tryd.ntmps34
  go_wp2
  all_goals (go_ret; refine ⟨ret_bool ?_, rfl⟩)
  all_goals (rw [Bool.eq_iff_iff]; simp [suV, wiV]; (try simp at *); (try omega))
theorem rplain_any (op : Int) (w : World) :
    Calls Tryd.prog 33 #[.int .i64 op] w fun e w' => e = .returned (.bool (plV op)) ∧ w = w' := by
  go_enter Tryd.func33, Tryd.ntmps33
  go_wp2
  all_goals (go_ret; refine ⟨ret_bool ?_, rfl⟩)
  all_goals (rw [Bool.eq_iff_iff]; simp [plV, wiV]; (try simp at *); (try omega))
end Go.Proofs.YtmgjojgjonighaaDoor

/-
  innkeeperbook.Within from 1 on: A CONTRACT.
-/
import Derived.Test.YtoejpdhcibbgdaaWi
namespace Go.Proofs.Ytoejpdhcibbgdaa
open Go.RowKit
set_option linter.unusedSimpArgs false
set_option linter.unusedVariables false

set_option maxRecDepth 100000 in
theorem within_one (n hi : Int) (b0 : -9223372036854775808 ≤ n) (b1 : n ≤ 9223372036854775807) (h0 : 1 ≤ hi) (h1 : hi ≤ 4611686018427387904) (w : World) :
    Calls Try.prog 16 #[.int .i64 n, .int .i64 1, .int .i64 hi] w fun e w' => e = .returned (.int .i64 (wdV n 1 hi)) ∧ w = w' := by
  obtain ⟨t0, t1⟩ := tmod_bd n hi (by omega)
  have hz : (hi == 0) = false := by simp; omega
  have hz1 : 1 ≤ hi := by omega
  by_cases hn : n.tmod hi < 0
  · have e := tmod_neg n hi (by omega) hn
    have e2 : wdV n 1 hi = 1 + (n.tmod hi + hi) := by unfold wdV; rw [show hi - 1 + 1 = hi by omega, e]
    rw [e2]; clear e e2
    have hneg : n < 0 := by
      rcases Int.lt_or_le n 0 with h | h
      · exact h
      · have := Int.tmod_nonneg hi h; omega
    go_enter Try.func16, Try.ntmps16
    go_wp2
    go_ret
    exact ⟨rfl, rfl⟩
  · have e := tmod_nonneg' n hi (by omega) hn
    have e2 : wdV n 1 hi = 1 + n.tmod hi := by unfold wdV; rw [show hi - 1 + 1 = hi by omega, e]
    rw [e2]; clear e e2
    go_enter Try.func16, Try.ntmps16
    go_wp2
    go_ret
    exact ⟨rfl, rfl⟩
end Go.Proofs.Ytoejpdhcibbgdaa

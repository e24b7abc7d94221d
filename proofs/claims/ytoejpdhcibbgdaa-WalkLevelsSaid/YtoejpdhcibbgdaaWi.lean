/-
  innkeeperbook.Within: A CONTRACT.
-/
import Derived.Test.YtoejpdhcibbgdaaNum
import Derived.Test.YtoejpdhcibbgdaaProg
import Derived.WalkKit
import Derived.Below
namespace Go.Proofs.Ytoejpdhcibbgdaa
open Go.RowKit
set_option linter.unusedSimpArgs false
set_option linter.unusedVariables false

/-! ### Within -/
/-- a number brought into lo .. hi -/
def wdV (n lo hi : Int) : Int := lo + n % (hi - lo + 1)
theorem wdV_bd (n lo hi : Int) (h : lo ≤ hi) : lo ≤ wdV n lo hi ∧ wdV n lo hi ≤ hi := by
  unfold wdV
  have h1 := Int.emod_nonneg n (show hi - lo + 1 ≠ 0 by omega)
  have h2 := Int.emod_lt_of_pos n (show 0 < hi - lo + 1 by omega)
  omega
theorem tmod_neg (n m : Int) (hm : 0 < m) (h : n.tmod m < 0) : n % m = n.tmod m + m := by
  have h1 := Int.emod_nonneg n (show m ≠ 0 by omega)
  have h2 := Int.emod_lt_of_pos n hm
  rw [Int.tmod_eq_emod] at h ⊢
  split at h <;> rename_i hc
  · omega
  · rw [if_neg hc] ; omega
theorem tmod_nonneg' (n m : Int) (hm : 0 < m) (h : ¬ n.tmod m < 0) : n % m = n.tmod m := by
  have h1 := Int.emod_nonneg n (show m ≠ 0 by omega)
  have h2 := Int.emod_lt_of_pos n hm
  rw [Int.tmod_eq_emod] at h ⊢
  split at h <;> rename_i hc
  · rw [if_pos hc]; omega
  · omega
theorem tmod_bd (n m : Int) (hm : 0 < m) : -m < n.tmod m ∧ n.tmod m < m := by
  have h1 := Int.emod_nonneg n (show m ≠ 0 by omega)
  have h2 := Int.emod_lt_of_pos n hm
  rw [Int.tmod_eq_emod]
  split <;> omega

set_option maxRecDepth 100000 in
theorem within_book (n hi : Int) (b0 : -9223372036854775808 ≤ n) (b1 : n ≤ 9223372036854775807) (h0 : 0 ≤ hi) (h1 : hi ≤ 4611686018427387904) (w : World) :
    Calls Try.prog 16 #[.int .i64 n, .int .i64 0, .int .i64 hi] w fun e w' => e = .returned (.int .i64 (wdV n 0 hi)) ∧ w = w' := by
  obtain ⟨t0, t1⟩ := tmod_bd n (hi + 1) (by omega)
  have hz : (hi + 1 == 0) = false := by simp; omega
  have hz1 : 1 ≤ hi + 1 := by omega
  by_cases hn : n.tmod (hi + 1) < 0
  · have e := tmod_neg n (hi + 1) (by omega) hn
    have e2 : wdV n 0 hi = n.tmod (hi + 1) + hi + 1 := by unfold wdV; rw [show hi - 0 + 1 = hi + 1 by omega, e]; omega
    rw [e2]; clear e e2
    have hneg : n < 0 := by
      rcases Int.lt_or_le n 0 with h | h
      · exact h
      · have := Int.tmod_nonneg (hi + 1) h; omega
    go_enter Try.func16, Try.ntmps16
    go_wp2
    go_ret
    exact ⟨rfl, rfl⟩
  · have e := tmod_nonneg' n (hi + 1) (by omega) hn
    have e2 : wdV n 0 hi = n.tmod (hi + 1) := by unfold wdV; rw [show hi - 0 + 1 = hi + 1 by omega, e]; omega
    rw [e2]; clear e e2
    go_enter Try.func16, Try.ntmps16
    go_wp2
    go_ret
    exact ⟨rfl, rfl⟩

end Go.Proofs.Ytoejpdhcibbgdaa

/-
  innkeeperbook.Within, innkeeperref3.Fields, hcode.register, used, Right: A CONTRACT EACH.
-/
import Derived.Test.YtaghblcboimbpaaNum
import Derived.Test.YtaghblcboimbpaaMem
import Derived.Test.YtaghblcboimbpaaProg
import Derived.WalkKit
import Derived.BigGuard
import Derived.Below
import Derived.Outline
namespace Go.Proofs.Ytaghblcboimbpaa
open Go.RowKit
set_option linter.unusedSimpArgs false
set_option linter.unusedVariables false

theorem ret_i64 {a b : Int} (h : a = b) : Ending.returned (.int .i64 a) = .returned (.int .i64 b) := by rw [h]
theorem ret_bool {a b : Bool} (h : a = b) : Ending.returned (.bool a) = .returned (.bool b) := by rw [h]
/-- which fields an operation uses -/
def uD (o : Int) : Bool := decide (1 ≤ o ∧ o ≤ 14)
def uA (o : Int) : Bool := decide (2 ≤ o ∧ o ≤ 17)
def uB (o : Int) : Bool := decide ((3 ≤ o ∧ o ≤ 13) ∨ o = 15)
def uN (o : Int) : Bool := decide (o = 1 ∨ (14 ≤ o ∧ o ≤ 19))
def isO (o : Int) : Bool := decide (0 ≤ o ∧ o ≤ 19)
def rg (n : Int) : Bool := decide (0 ≤ n ∧ n < 16)
/-- what is kept of a field -/
def kp (c : Bool) (x : Int) : Int := if c then x else 0
/-- a right instruction -/
def okH (o d a b n : Int) : Bool := isO o && (uD o || d == 0) && (uA o || a == 0) && (uB o || b == 0) && (uN o || n == 0) && rg d && rg a && rg b
/-- an instruction's value -/
abbrev hv (o d a b n : Int) : Value := .agg #[.int .i64 o, .int .i64 d, .int .i64 a, .int .i64 b, .int .u32 n]

/-! ### Within -/
/-- a number brought into lo .. hi -/
def wdV (n lo hi : Int) : Int := lo + n % (hi - lo + 1)
theorem wdV_bd (n lo hi : Int) (h : lo ≤ hi) : lo ≤ wdV n lo hi ∧ wdV n lo hi ≤ hi := by
  unfold wdV
  have h1 := Int.emod_nonneg n (show hi - lo + 1 ≠ 0 by omega)
  have h2 := Int.emod_lt_of_pos n (show 0 < hi - lo + 1 by omega)
  omega
theorem tmod_neg (n m : Int) (hm : 0 < m) (h : n.tmod m < 0) : n % m = n.tmod m + m := by
  have h1 := Int.emod_nonneg n (show m ≠ 0 by omega)
  have h2 := Int.emod_lt_of_pos n hm
  rw [Int.tmod_eq_emod] at h ⊢
  split at h <;> rename_i hc
  · omega
  · rw [if_neg hc] ; omega
theorem tmod_nonneg' (n m : Int) (hm : 0 < m) (h : ¬ n.tmod m < 0) : n % m = n.tmod m := by
  have h1 := Int.emod_nonneg n (show m ≠ 0 by omega)
  have h2 := Int.emod_lt_of_pos n hm
  rw [Int.tmod_eq_emod] at h ⊢
  split at h <;> rename_i hc
  · rw [if_pos hc]; omega
  · omega
theorem tmod_bd (n m : Int) (hm : 0 < m) : -m < n.tmod m ∧ n.tmod m < m := by
  have h1 := Int.emod_nonneg n (show m ≠ 0 by omega)
  have h2 := Int.emod_lt_of_pos n hm
  rw [Int.tmod_eq_emod]
  split <;> omega

set_option maxRecDepth 100000 in
theorem within_book (n hi : Int) (b0 : -9223372036854775808 ≤ n) (b1 : n ≤ 9223372036854775807) (h0 : 0 ≤ hi) (h1 : hi ≤ 4611686018427387904) (w : World) :
    Calls Try.prog 20 #[.int .i64 n, .int .i64 0, .int .i64 hi] w fun e w' => e = .returned (.int .i64 (wdV n 0 hi)) ∧ w = w' := by
  obtain ⟨t0, t1⟩ := tmod_bd n (hi + 1) (by omega)
  have hz : (hi + 1 == 0) = false := by simp; omega
  have hz1 : 1 ≤ hi + 1 := by omega
  by_cases hn : n.tmod (hi + 1) < 0
  · have e := tmod_neg n (hi + 1) (by omega) hn
    have e2 : wdV n 0 hi = n.tmod (hi + 1) + hi + 1 := by unfold wdV; rw [show hi - 0 + 1 = hi + 1 by omega, e]; omega
    rw [e2]; clear e e2
    have hneg : n < 0 := by
      rcases Int.lt_or_le n 0 with h | h
      · exact h
      · have := Int.tmod_nonneg (hi + 1) h; omega
    go_enter Try.func20, Try.ntmps20
    go_wp2
    go_ret
    exact ⟨rfl, rfl⟩
  · have e := tmod_nonneg' n (hi + 1) (by omega) hn
    have e2 : wdV n 0 hi = n.tmod (hi + 1) := by unfold wdV; rw [show hi - 0 + 1 = hi + 1 by omega, e]; omega
    rw [e2]; clear e e2
    go_enter Try.func20, Try.ntmps20
    go_wp2
    go_ret
    exact ⟨rfl, rfl⟩

/-! ### Fields -/
/-- which fields an operation uses, as a mask -/
def fdV (o : Int) : Int :=
  if o = 0 then 0 else if o = 1 then 9 else if o = 2 then 3 else if 3 ≤ o ∧ o ≤ 13 then 7 else if o = 14 then 11 else if o = 15 then 14
  else if o = 16 ∨ o = 17 then 10 else if o = 18 ∨ o = 19 then 8 else -1
set_option maxRecDepth 100000 in
set_option maxHeartbeats 1000000 in
theorem fields_any (o : Int) (w : World) :
    Calls Try.prog 28 #[.int .i64 o] w fun e w' => e = .returned (.int .i64 (fdV o)) ∧ w = w' := by
  go_enter Try.func28, Try.ntmps28
  go_wp2
  all_goals (go_ret; refine ⟨ret_i64 ?_, rfl⟩)
  all_goals (simp only [beq_iff_eq, beq_eq_false_iff_ne, ne_eq, decide_eq_true_eq, decide_eq_false_iff_not] at *; unfold fdV; (repeat' split) <;> (try simp at *) <;> omega)

/-! ### register, used, Right -/
theorem register_any (n : Int) (w : World) :
    Calls Try.prog 42 #[.int .i64 n] w fun e w' => e = .returned (.bool (rg n)) ∧ w = w' := by
  by_cases h1 : 0 ≤ n
  · go_enter Try.func42, Try.ntmps42
    go_wp2
    go_ret
    exact ⟨ret_bool (by simp [rg, h1]), rfl⟩
  · have h2 : decide (0 ≤ n) = false := by simpa using h1
    go_enter Try.func42, Try.ntmps42
    go_wp2
    go_ret
    exact ⟨ret_bool (by simp [rg]; omega), rfl⟩
end Go.Proofs.Ytaghblcboimbpaa

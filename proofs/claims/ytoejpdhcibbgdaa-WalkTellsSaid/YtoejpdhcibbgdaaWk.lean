/-
  walk: Fault, Bits, marks, numberOf, slotAt, Look, Do: A CONTRACT EACH.
-/
import Derived.Test.YtoejpdhcibbgdaaWn
namespace Go.Proofs.Ytoejpdhcibbgdaa
open Go.RowKit
set_option linter.unusedSimpArgs false
set_option linter.unusedVariables false

theorem fault_any (k : Int) (w : World) :
    Calls Try.prog 7 #[.int .i64 k] w fun e w' => e = .returned (.int .i64 (ftV k)) ∧ w = w' := by
  rcases (show k = 1 ∨ k = 2 ∨ k = 3 ∨ (k ≠ 1 ∧ k ≠ 2 ∧ k ≠ 3) by omega) with rfl | rfl | rfl | ⟨h1, h2, h3⟩
  · rw [show ftV 1 = 7 from rfl]
    go_enter Try.func7, Try.ntmps7
    go_wp2
    go_ret
    exact ⟨rfl, rfl⟩
  · rw [show ftV 2 = 8 from rfl]
    go_enter Try.func7, Try.ntmps7
    go_wp2
    go_ret
    exact ⟨rfl, rfl⟩
  · rw [show ftV 3 = 9 from rfl]
    go_enter Try.func7, Try.ntmps7
    go_wp2
    go_ret
    exact ⟨rfl, rfl⟩
  · rw [show ftV k = 0 by unfold ftV; rw [if_neg h1, if_neg h2, if_neg h3]]
    have e1 : (k == 1) = false := by simpa using h1
    have e2 : (k == 2) = false := by simpa using h2
    have e3 : (k == 3) = false := by simpa using h3
    go_enter Try.func7, Try.ntmps7
    go_wp2
    go_ret
    exact ⟨rfl, rfl⟩
theorem bits_any (k : Int) (s : Bool) (w : World) :
    Calls Try.prog 9 #[.int .i64 k, .bool s] w fun e w' => e = .returned (.int .u32 ((btN k s : Nat) : Int)) ∧ w = w' := by
  rcases (show k = 1 ∨ k = 2 ∨ k = 3 ∨ (k ≠ 1 ∧ k ≠ 2 ∧ k ≠ 3) by omega) with rfl | rfl | rfl | ⟨h1, h2, h3⟩
  case inr.inr.inr =>
    have e1 : (k == 1) = false := by simpa using h1
    have e2 : (k == 2) = false := by simpa using h2
    have e3 : (k == 3) = false := by simpa using h3
    cases s
    · rw [show btN k false = 17 by unfold btN bt0; rw [if_neg h1, if_neg h2, if_neg h3]; rfl]
      go_enter Try.func9, Try.ntmps9
      go_wp2
      go_ret
      exact ⟨rfl, rfl⟩
    · rw [show btN k true = 1 by unfold btN bt0; rw [if_neg h1, if_neg h2, if_neg h3]; rfl]
      go_enter Try.func9, Try.ntmps9
      go_wp2
      go_ret
      exact ⟨rfl, rfl⟩
  all_goals
    cases s
    all_goals
      go_enter Try.func9, Try.ntmps9
      go_wp2
      go_ret
      exact ⟨rfl, rfl⟩
theorem marks_any (k : Int) (w : World) :
    Calls Try.prog 31 #[.int .i64 k] w fun e w' => e = .returned (.int .u32 ((mkN k : Nat) : Int)) ∧ w = w' := by
  by_cases h : k = 3
  · subst h
    go_enter Try.func31, Try.ntmps31
    go_wp2
    go_ret
    exact ⟨rfl, rfl⟩
  · rw [show mkN k = 32 from if_neg h]
    have e1 : (k == 3) = false := by simpa using h
    go_enter Try.func31, Try.ntmps31
    go_wp2
    go_ret
    exact ⟨rfl, rfl⟩
theorem number_any (n : Nat) (h : n < 4294967296) (w : World) :
    Calls Try.prog 33 #[.int .u32 n] w fun e w' => e = .returned (.int .u32 ((n / 256 : Nat) : Int)) ∧ w = w' := by
  go_enter Try.func33, Try.ntmps33
  go_wp2
  go_ret
  exact ⟨rfl, rfl⟩
theorem slotAt_any (a b : Nat) (h : a * 64 + b * 4 < 4294967296) (w : World) :
    Calls Try.prog 36 #[.int .u32 a, .int .u32 b] w fun e w' => e = .returned (.int .u32 ((a * 64 + b * 4 : Nat) : Int)) ∧ w = w' := by
  go_enter Try.func36, Try.ntmps36
  go_wp2
  go_ret
  exact ⟨rfl, rfl⟩
end Go.Proofs.Ytoejpdhcibbgdaa

/-
  innkeeperlaw1's own small functions: 'known' and 'same' return true.
-/
import Derived.Test.YtckggiclplgaiaaRef
import Derived.Deep.QuietTactic
import Derived.BigQuiet
namespace Go.Proofs.Ytckggiclplgaiaa
open Go.RowKit
set_option linter.unusedSimpArgs false
set_option linter.unusedVariables false

theorem do_k1 (w : World) :
    Calls Try.prog 15 #[.int .i64 16, .int .u32 2147483647, .int .u32 1] w fun e w' => e = .returned (.tuple #[.int .u32 2147483648, .int .u32 10, .bool true]) ∧ w = w' := by
  have h := do_add 2147483647 1 (by omega) (by omega) (by omega) (by omega) w
  have e : addFl 2147483647 1 = 10 := by decide
  rw [e] at h; exact h
theorem sign_k (w : World) :
    Calls Try.prog 12 #[.int .u32 255] w fun e w' => e = .returned (.int .u32 4294967295) ∧ w = w' := by
  have h := sign_any 255 (by omega) (by omega) w
  have e : sgnV 255 = 4294967295 := by decide
  rw [e] at h; exact h
theorem known_any (w : World) :
    Calls Try.prog 14 #[] w fun e w' => e = .returned (.bool true) ∧ w = w' := by
  go_enter Try.func14, Try.ntmps14
  go_wp2_with (first | (go_at_call 15; first | ((with_reducible refine (do_k1 _).mono ?_); rintro e w' ⟨rfl, rfl⟩) | ((with_reducible refine (do_div0 _ _).mono ?_); rintro e w' ⟨rfl, rfl⟩)) | (go_at_call 12; refine (sign_k _).mono ?_; rintro e w' ⟨rfl, rfl⟩))
  go_ret
  exact ⟨rfl, rfl⟩
theorem same_any (op a b : Int) (a0 : 0 ≤ a) (a1 : a < 4294967296) (b0 : 0 ≤ b) (b1 : b < 4294967296) (w : World) :
    Calls Try.prog 9 #[.int .i64 op, .int .u32 a, .int .u32 b] w fun e w' => e = .returned (.bool true) ∧ w = w' := by
  go_enter Try.func9, Try.ntmps9
  go_wp2_with (first | (go_at_call 15; refine (do_any _ _ _ a0 a1 b0 b1 _).mono ?_; rintro e w' ⟨rfl, rfl⟩) | (go_at_call 16; refine (flags_any _ _ _ a0 a1 b0 b1 _).mono ?_; rintro e w' ⟨rfl, rfl⟩) | (go_at_call 17; refine (rdo_any _ _ _ a0 a1 b0 b1 _).mono ?_; rintro e w' ⟨rfl, rfl⟩))
  go_ret
  exact ⟨rfl, rfl⟩
end Go.Proofs.Ytckggiclplgaiaa

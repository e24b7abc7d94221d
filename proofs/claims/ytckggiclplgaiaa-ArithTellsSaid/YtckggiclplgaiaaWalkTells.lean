/-
  innkeeperlaw1.ArithTells returns true: its walk.
-/
import Derived.Test.YtckggiclplgaiaaLawOne
import Derived.RowKit3
namespace Go.Proofs.Ytckggiclplgaiaa
open Go.RowKit
set_option linter.unusedSimpArgs false
set_option linter.unusedVariables false
theorem tells_walk (op a b f : Int) (w0 : (Lit.int .i64 op).wf = true) (w1 : (Lit.int .u32 a).wf = true) (w2 : (Lit.int .u32 b).wf = true) (w3 : (Lit.int .u32 f).wf = true) (w : World) :
    Calls Try.prog 4 #[.int .i64 op, .int .u32 a, .int .u32 b, .int .u32 f] w fun e w' => e = .returned (.bool true) ∧ Grown w w' := by
  obtain ⟨a0, a1⟩ := u32_of_wf w1
  obtain ⟨b0, b1⟩ := u32_of_wf w2
  clear w0 w1 w2 w3
  go_enter Try.func4, Try.ntmps4
  go_wp2_with (first | (go_at_call 10; refine (holds_any _ _ _).mono ?_; rintro e w' ⟨rfl, rfl⟩) | (go_at_call 11; refine (rholds_any _ _ _).mono ?_; rintro e w' ⟨rfl, rfl⟩) | (go_at_call 9; refine (same_any _ _ _ a0 a1 b0 b1 _).mono ?_; rintro e w' ⟨rfl, rfl⟩) | (go_at_call 12; refine (sign_any _ a0 a1 _).mono ?_; rintro e w' ⟨rfl, rfl⟩) | (go_at_call 13; refine (rsign_any _ a0 a1 _).mono ?_; rintro e w' ⟨rfl, rfl⟩) | (go_at_call 14; refine (known_any _).mono ?_; rintro e w' ⟨rfl, rfl⟩))
  go_ret
  exact ⟨rfl, Grown.refl _⟩
end Go.Proofs.Ytckggiclplgaiaa

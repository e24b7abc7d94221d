/-
  innkeeperlaw1.ArithFlags returns true: its walk, one for each kind of operation.
-/
import Derived.Test.YtckggiclplgaiaaWalkLaws
namespace Go.Proofs.Ytckggiclplgaiaa
open Go.RowKit
set_option linter.unusedSimpArgs false
set_option linter.unusedVariables false

set_option maxHeartbeats 1000000 in
set_option maxRecDepth 100000 in
theorem flags_add (op a b V F A B C : Int) (hr : op % 4294967296 % 10 = 0) (V0 : 0 ≤ V) (V1 : V < 4294967296) (F0 : 0 ≤ F) (F1 : F ≤ 15) (a0 : 0 ≤ a) (a1 : a < 4294967296) (b0 : 0 ≤ b) (b1 : b < 4294967296)
    (hA : wrap32 a = A) (hB : wrap32 b = B) (hC : wrap32 V = C) (A0 : -2147483648 ≤ A) (A1 : A < 2147483648) (B0 : -2147483648 ≤ B) (B1 : B < 2147483648) (C0 : -2147483648 ≤ C) (C1 : C < 2147483648)
    (h1 : (bits .and .u32 F 1 != 0) = (V == 0)) (h2 : (bits .and .u32 F 2 != 0) = (V / 2147483648 == 1))
    (h4 : (bits .and .u32 F 4 != 0) = decide (4294967295 < a + b)) (h8 : (bits .and .u32 F 8 != 0) = (A + B != C))
    (hc : ∀ w : World, Calls Try.prog 15 #[.int .i64 16, .int .u32 a, .int .u32 b] w fun e w' => e = .returned (.tuple #[.int .u32 V, .int .u32 F, .bool true]) ∧ w = w') (w : World) :
    Calls Try.prog 8 #[.int .i64 op, .int .u32 a, .int .u32 b] w fun e w' => e = .returned (.bool true) ∧ Grown w w' := by
  go_enter Try.func8, Try.ntmps8
  go_wp2_with (first | (go_at_call 14; refine (known_any _).mono ?_; rintro e w' ⟨rfl, rfl⟩) | (go_at_call 15; (with_reducible refine (hc _).mono ?_); rintro e w' ⟨rfl, rfl⟩))
  go_ret
  exact ⟨rfl, Grown.refl _⟩

set_option maxHeartbeats 1000000 in
set_option maxRecDepth 100000 in
theorem flags_sub (op a b V F A B C : Int) (hr : op % 4294967296 % 10 = 1) (V0 : 0 ≤ V) (V1 : V < 4294967296) (F0 : 0 ≤ F) (F1 : F ≤ 15) (a0 : 0 ≤ a) (a1 : a < 4294967296) (b0 : 0 ≤ b) (b1 : b < 4294967296)
    (hA : wrap32 a = A) (hB : wrap32 b = B) (hC : wrap32 V = C) (A0 : -2147483648 ≤ A) (A1 : A < 2147483648) (B0 : -2147483648 ≤ B) (B1 : B < 2147483648) (C0 : -2147483648 ≤ C) (C1 : C < 2147483648)
    (h1 : (bits .and .u32 F 1 != 0) = (V == 0)) (h2 : (bits .and .u32 F 2 != 0) = (V / 2147483648 == 1))
    (h4 : (bits .and .u32 F 4 != 0) = decide (a < b)) (h8 : (bits .and .u32 F 8 != 0) = (A - B != C))
    (hc : ∀ w : World, Calls Try.prog 15 #[.int .i64 17, .int .u32 a, .int .u32 b] w fun e w' => e = .returned (.tuple #[.int .u32 V, .int .u32 F, .bool true]) ∧ w = w') (w : World) :
    Calls Try.prog 8 #[.int .i64 op, .int .u32 a, .int .u32 b] w fun e w' => e = .returned (.bool true) ∧ Grown w w' := by
  go_enter Try.func8, Try.ntmps8
  go_wp2_with (first | (go_at_call 14; refine (known_any _).mono ?_; rintro e w' ⟨rfl, rfl⟩) | (go_at_call 15; (with_reducible refine (hc _).mono ?_); rintro e w' ⟨rfl, rfl⟩))
  go_ret
  exact ⟨rfl, Grown.refl _⟩

set_option maxHeartbeats 1000000 in
set_option maxRecDepth 100000 in
theorem flags_else (op a b V F r : Int) (hr : op % 4294967296 % 10 = r) (r0 : 2 ≤ r) (r1 : r ≤ 8) (V0 : 0 ≤ V) (V1 : V < 4294967296) (F0 : 0 ≤ F) (F1 : F ≤ 15) (a0 : 0 ≤ a) (a1 : a < 4294967296) (b0 : 0 ≤ b) (b1 : b < 4294967296)
    (h1 : (bits .and .u32 F 1 != 0) = (V == 0)) (h2 : (bits .and .u32 F 2 != 0) = (V / 2147483648 == 1))
    (h12 : (bits .and .u32 F 12 == 0) = true) (n16 : (16 + r == 16) = false) (n17 : (16 + r == 17) = false) (n25 : (16 + r == 25) = false)
    (hc : ∀ w : World, Calls Try.prog 15 #[.int .i64 (16 + r), .int .u32 a, .int .u32 b] w fun e w' => e = .returned (.tuple #[.int .u32 V, .int .u32 F, .bool true]) ∧ w = w') (w : World) :
    Calls Try.prog 8 #[.int .i64 op, .int .u32 a, .int .u32 b] w fun e w' => e = .returned (.bool true) ∧ Grown w w' := by
  go_enter Try.func8, Try.ntmps8
  go_wp2_with (first | (go_at_call 14; refine (known_any _).mono ?_; rintro e w' ⟨rfl, rfl⟩) | (go_at_call 15; (with_reducible refine (hc _).mono ?_); rintro e w' ⟨rfl, rfl⟩))
  go_ret
  exact ⟨rfl, Grown.refl _⟩

set_option maxHeartbeats 1000000 in
set_option maxRecDepth 100000 in
theorem flags_cmp (op a b F : Int) (hr : op % 4294967296 % 10 = 9) (F0 : 0 ≤ F) (F1 : F < 16) (a0 : 0 ≤ a) (a1 : a < 4294967296) (b0 : 0 ≤ b) (b1 : b < 4294967296)
    (hc : ∀ w : World, Calls Try.prog 15 #[.int .i64 25, .int .u32 a, .int .u32 b] w fun e w' => e = .returned (.tuple #[.int .u32 0, .int .u32 F, .bool true]) ∧ w = w') (w : World) :
    Calls Try.prog 8 #[.int .i64 op, .int .u32 a, .int .u32 b] w fun e w' => e = .returned (.bool true) ∧ Grown w w' := by
  go_enter Try.func8, Try.ntmps8
  go_wp2_with (first | (go_at_call 14; refine (known_any _).mono ?_; rintro e w' ⟨rfl, rfl⟩) | (go_at_call 15; (with_reducible refine (hc _).mono ?_); rintro e w' ⟨rfl, rfl⟩))
  go_ret
  exact ⟨rfl, Grown.refl _⟩

set_option maxHeartbeats 1000000 in
set_option maxRecDepth 100000 in
theorem flags_div0 (op a : Int) (hr : op % 4294967296 % 10 = 8) (a0 : 0 ≤ a) (a1 : a < 4294967296) (w : World) :
    Calls Try.prog 8 #[.int .i64 op, .int .u32 a, .int .u32 0] w fun e w' => e = .returned (.bool true) ∧ Grown w w' := by
  have hc := do_div0 a
  go_enter Try.func8, Try.ntmps8
  go_wp2_with (first | (go_at_call 14; refine (known_any _).mono ?_; rintro e w' ⟨rfl, rfl⟩) | (go_at_call 15; (with_reducible refine (hc _).mono ?_); rintro e w' ⟨rfl, rfl⟩))
  go_ret
  exact ⟨rfl, Grown.refl _⟩

theorem flags_walk (op a b : Int) (w0 : (Lit.int .i64 op).wf = true) (w1 : (Lit.int .u32 a).wf = true) (w2 : (Lit.int .u32 b).wf = true) (w : World) :
    Calls Try.prog 8 #[.int .i64 op, .int .u32 a, .int .u32 b] w fun e w' => e = .returned (.bool true) ∧ Grown w w' := by
  obtain ⟨a0, a1⟩ := u32_of_wf w1
  obtain ⟨b0, b1⟩ := u32_of_wf w2
  obtain ⟨A0, A1⟩ := wrap32_bd a
  obtain ⟨B0, B1⟩ := wrap32_bd b
  by_cases r0 : op % 4294967296 % 10 = 0
  · have V0 : 0 ≤ (a + b) % 4294967296 := by omega
    have V1 : (a + b) % 4294967296 < 4294967296 := by omega
    obtain ⟨C0, C1⟩ := wrap32_bd ((a + b) % 4294967296)
    obtain ⟨h1, h2, h4, h8, _, F0, F1⟩ := flag_facts ((a + b) % 4294967296) (if 4294967296 ≤ a + b then 4 else 0) (if ovA a b = true then 8 else 0) V0 V1 (ite_or 4 _) (ite_or 8 _)
    refine flags_add op a b _ _ _ _ _ r0 V0 V1 F0 F1 a0 a1 b0 b1 rfl rfl rfl A0 A1 B0 B1 C0 C1 h1 h2 ?_ ?_ (do_add a b a0 a1 b0 b1) w
    · rw [h4, ite_is 4 (by omega)]; rw [decide_eq_decide]; omega
    · rw [h8, ite_is 8 (by omega), add_over a b a0 a1 b0 b1, sg_wrap32 a a0 a1, sg_wrap32 b b0 b1, sg_wrap32 _ V0 V1]
      rw [Bool.eq_iff_iff]; simp
  by_cases r1 : op % 4294967296 % 10 = 1
  · have V0 : 0 ≤ (a - b) % 4294967296 := by omega
    have V1 : (a - b) % 4294967296 < 4294967296 := by omega
    obtain ⟨C0, C1⟩ := wrap32_bd ((a - b) % 4294967296)
    obtain ⟨h1, h2, h4, h8, _, F0, F1⟩ := flag_facts ((a - b) % 4294967296) (if a < b then 4 else 0) (if ovS a b = true then 8 else 0) V0 V1 (ite_or 4 _) (ite_or 8 _)
    refine flags_sub op a b _ _ _ _ _ r1 V0 V1 F0 F1 a0 a1 b0 b1 rfl rfl rfl A0 A1 B0 B1 C0 C1 h1 h2 ?_ ?_ (do_sub a b a0 a1 b0 b1) w
    · rw [h4, ite_is 4 (by omega)]
    · rw [h8, ite_is 8 (by omega), sub_over a b a0 a1 b0 b1, sg_wrap32 a a0 a1, sg_wrap32 b b0 b1, sg_wrap32 _ V0 V1]
      rw [Bool.eq_iff_iff]; simp
  by_cases r9 : op % 4294967296 % 10 = 9
  · obtain ⟨F0, F1⟩ := subFl_bd a b
    exact flags_cmp op a b _ r9 F0 (by omega) a0 a1 b0 b1 (do_cmp a b a0 a1 b0 b1) w
  by_cases z : op % 4294967296 % 10 = 8 ∧ b = 0
  · obtain ⟨z1, rfl⟩ := z
    exact flags_div0 op a z1 a0 a1 w
  · obtain ⟨r, hr⟩ : ∃ r, op % 4294967296 % 10 = r := ⟨_, rfl⟩
    have hk : doK (16 + r) b = true := by unfold doK; simp; omega
    obtain ⟨V0, V1⟩ := doV_bd (16 + r) a b a0 a1 b0 b1
    have hF : doF (16 + r) a b = wfl (doV (16 + r) a b) + 0 + 0 := by
      unfold doF; rw [if_neg (by omega), if_neg (by omega), if_pos hk]; omega
    obtain ⟨h1, h2, _, _, h12, F0, F1⟩ := flag_facts (doV (16 + r) a b) 0 0 V0 V1 (by simp) (by simp)
    refine flags_else op a b _ _ r hr (by omega) (by omega) V0 V1 F0 F1 a0 a1 b0 b1 h1 h2 (by rw [h12]; rfl) (by simp; omega) (by simp; omega) (by simp; omega) (do_of _ a b _ _ _ a0 a1 b0 b1 rfl hF hk) w
end Go.Proofs.Ytckggiclplgaiaa

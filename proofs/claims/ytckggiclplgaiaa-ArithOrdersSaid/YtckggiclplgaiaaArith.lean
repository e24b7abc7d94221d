/-
  WHAT THE FUNCTIONS OF innkeeper/arith COME TO: a contract each.
-/
import Derived.Test.YtckggiclplgaiaaProg
import Derived.Test.YtckggiclplgaiaaNum
import Derived.Outline
namespace Go.Proofs.Ytckggiclplgaiaa
open Go.RowKit
set_option linter.unusedSimpArgs false
set_option linter.unusedVariables false

theorem word_any (r : Int) (r0 : 0 ≤ r) (r1 : r < 4294967296) (w : World) :
    Calls Try.prog 20 #[.int .u32 r] w fun e w' => e = .returned (.int .u32 (wfl r)) ∧ w = w' := by
  have ht := bits_top r r0 r1
  rcases Int.lt_or_le r 2147483648 with c | c
  · have hh : hi r = false := by unfold hi; simp; omega
    rw [hh] at ht; clear hh
    by_cases z : r = 0
    · have hw := wfl_zero r z
      rw [hw]; clear hw; subst z
      clear ht
      go_enter Try.func20, Try.ntmps20
      go_wp2
      go_ret
      exact ⟨rfl, rfl⟩
    · have hw := wfl_lo r (by omega) c
      rw [hw]; clear hw
      have hz : (r == 0) = false := by simpa using z
      go_enter Try.func20, Try.ntmps20
      go_wp2
      go_ret
      exact ⟨rfl, rfl⟩
  · have hh : hi r = true := by unfold hi; simp; omega
    rw [hh] at ht; clear hh
    have hw := wfl_hi r c
    rw [hw]; clear hw
    have hz : (r == 0) = false := by simp; omega
    go_enter Try.func20, Try.ntmps20
    go_wp2
    go_ret
    exact ⟨rfl, rfl⟩

set_option maxHeartbeats 400000 in
theorem add_any (a b : Int) (a0 : 0 ≤ a) (a1 : a < 4294967296) (b0 : 0 ≤ b) (b1 : b < 4294967296) (w : World) :
    Calls Try.prog 18 #[.int .u32 a, .int .u32 b] w fun e w' => e = .returned (.int .u32 (addFl a b)) ∧ w = w' := by
  have ht := bits_ov a ((a + b) % 4294967296) b ((a + b) % 4294967296) a0 a1 (by omega) (by omega) b0 b1 (by omega) (by omega)
  have hov : ((hi a != hi ((a + b) % 4294967296)) && (hi b != hi ((a + b) % 4294967296))) = ovA a b := by
    unfold ovA; cases hi a <;> cases hi b <;> cases hi ((a + b) % 4294967296) <;> rfl
  rw [hov] at ht; clear hov
  have hF := wfl_cases ((a + b) % 4294967296)
  have e4 := bits_or4 _ hF
  have e8 := bits_or8 (wfl ((a + b) % 4294967296)) (by omega)
  have e48 := bits_or8 (wfl ((a + b) % 4294967296) + 4) (by omega)
  have hs : addFl a b = wfl ((a + b) % 4294967296) + (if 4294967296 ≤ a + b then 4 else 0) + (if ovA a b = true then 8 else 0) := rfl
  generalize hr : wfl ((a + b) % 4294967296) = F at *
  have hc : ∀ w, Calls Try.prog 20 #[.int .u32 ((a + b) % 4294967296)] w fun e w' => e = .returned (.int .u32 F) ∧ w = w' := by
    intro w; rw [← hr]; exact word_any _ (by omega) (by omega) w
  clear hF hr
  generalize ovA a b = O at *
  rcases Int.lt_or_le (a + b) 4294967296 with c | c
  · rw [if_neg (by omega)] at hs
    have hm : ¬ a + b < a := by omega
    have em : (a + b) % 4294967296 = a + b := by omega
    rw [em] at ht hc; clear em
    rw [hs]; clear hs
    cases O
    all_goals
      go_enter Try.func18, Try.ntmps18
      go_wp2_with (go_at_call 20; refine (hc _).mono ?_; rintro e w' ⟨rfl, rfl⟩)
      go_ret
      exact ⟨by simp [e8], rfl⟩
  · rw [if_pos (by omega)] at hs
    have hm : (a + b) % 4294967296 < a := by omega
    rw [hs]; clear hs
    cases O
    all_goals
      go_enter Try.func18, Try.ntmps18
      go_wp2_with (go_at_call 20; refine (hc _).mono ?_; rintro e w' ⟨rfl, rfl⟩)
      go_ret
      exact ⟨by simp [e4, e48], rfl⟩

set_option maxHeartbeats 400000 in
theorem sub_any (a b : Int) (a0 : 0 ≤ a) (a1 : a < 4294967296) (b0 : 0 ≤ b) (b1 : b < 4294967296) (w : World) :
    Calls Try.prog 19 #[.int .u32 a, .int .u32 b] w fun e w' => e = .returned (.int .u32 (subFl a b)) ∧ w = w' := by
  have ht := bits_ov a b a ((a - b) % 4294967296) a0 a1 b0 b1 a0 a1 (by omega) (by omega)
  have hov : ((hi a != hi b) && (hi a != hi ((a - b) % 4294967296))) = ovS a b := by
    unfold ovS; cases hi a <;> cases hi b <;> cases hi ((a - b) % 4294967296) <;> rfl
  rw [hov] at ht; clear hov
  have hF := wfl_cases ((a - b) % 4294967296)
  have e4 := bits_or4 _ hF
  have e8 := bits_or8 (wfl ((a - b) % 4294967296)) (by omega)
  have e48 := bits_or8 (wfl ((a - b) % 4294967296) + 4) (by omega)
  have hs : subFl a b = wfl ((a - b) % 4294967296) + (if a < b then 4 else 0) + (if ovS a b = true then 8 else 0) := rfl
  generalize hr : wfl ((a - b) % 4294967296) = F at *
  have hc : ∀ w, Calls Try.prog 20 #[.int .u32 ((a - b) % 4294967296)] w fun e w' => e = .returned (.int .u32 F) ∧ w = w' := by
    intro w; rw [← hr]; exact word_any _ (by omega) (by omega) w
  clear hF hr
  generalize ovS a b = O at *
  rcases Int.lt_or_le a b with c | c
  · rw [if_pos (by omega)] at hs
    rw [hs]; clear hs
    cases O
    all_goals
      go_enter Try.func19, Try.ntmps19
      go_wp2_with (go_at_call 20; refine (hc _).mono ?_; rintro e w' ⟨rfl, rfl⟩)
      go_ret
      exact ⟨by simp [e4, e48], rfl⟩
  · rw [if_neg (by omega)] at hs
    have em : (a - b) % 4294967296 = a - b := by omega
    rw [em] at ht hc; clear em
    rw [hs]; clear hs
    cases O
    all_goals
      go_enter Try.func19, Try.ntmps19
      go_wp2_with (go_at_call 20; refine (hc _).mono ?_; rintro e w' ⟨rfl, rfl⟩)
      go_ret
      exact ⟨by simp [e8], rfl⟩

/-! ### Do -/
theorem do_add (a b : Int) (a0 : 0 ≤ a) (a1 : a < 4294967296) (b0 : 0 ≤ b) (b1 : b < 4294967296) (w : World) :
    Calls Try.prog 15 #[.int .i64 16, .int .u32 a, .int .u32 b] w fun e w' => e = .returned (.tuple #[.int .u32 ((a + b) % 4294967296), .int .u32 (addFl a b), .bool true]) ∧ w = w' := by
  go_enter Try.func15, Try.ntmps15
  go_wp2_with (go_at_call 18; refine (add_any _ _ a0 a1 b0 b1 _).mono ?_; rintro e w' ⟨rfl, rfl⟩)
  go_ret3
  exact ⟨rfl, rfl⟩
theorem do_sub (a b : Int) (a0 : 0 ≤ a) (a1 : a < 4294967296) (b0 : 0 ≤ b) (b1 : b < 4294967296) (w : World) :
    Calls Try.prog 15 #[.int .i64 17, .int .u32 a, .int .u32 b] w fun e w' => e = .returned (.tuple #[.int .u32 ((a - b) % 4294967296), .int .u32 (subFl a b), .bool true]) ∧ w = w' := by
  go_enter Try.func15, Try.ntmps15
  go_wp2_with (go_at_call 19; refine (sub_any _ _ a0 a1 b0 b1 _).mono ?_; rintro e w' ⟨rfl, rfl⟩)
  go_ret3
  exact ⟨rfl, rfl⟩
theorem do_cmp (a b : Int) (a0 : 0 ≤ a) (a1 : a < 4294967296) (b0 : 0 ≤ b) (b1 : b < 4294967296) (w : World) :
    Calls Try.prog 15 #[.int .i64 25, .int .u32 a, .int .u32 b] w fun e w' => e = .returned (.tuple #[.int .u32 0, .int .u32 (subFl a b), .bool true]) ∧ w = w' := by
  go_enter Try.func15, Try.ntmps15
  go_wp2_with (go_at_call 19; refine (sub_any _ _ a0 a1 b0 b1 _).mono ?_; rintro e w' ⟨rfl, rfl⟩)
  go_ret3
  exact ⟨rfl, rfl⟩
theorem do_and (a b : Int) (a0 : 0 ≤ a) (a1 : a < 4294967296) (b0 : 0 ≤ b) (b1 : b < 4294967296) (w : World) :
    Calls Try.prog 15 #[.int .i64 18, .int .u32 a, .int .u32 b] w fun e w' => e = .returned (.tuple #[.int .u32 (bits .and .u32 a b), .int .u32 (wfl (bits .and .u32 a b)), .bool true]) ∧ w = w' := by
  obtain ⟨r0, r1⟩ := u32_of_nat .and (by simp) a b a0 a1 b0 b1
  go_enter Try.func15, Try.ntmps15
  go_wp2_with (go_at_call 20; refine (word_any _ r0 r1 _).mono ?_; rintro e w' ⟨rfl, rfl⟩)
  go_ret3
  exact ⟨rfl, rfl⟩
theorem do_or (a b : Int) (a0 : 0 ≤ a) (a1 : a < 4294967296) (b0 : 0 ≤ b) (b1 : b < 4294967296) (w : World) :
    Calls Try.prog 15 #[.int .i64 19, .int .u32 a, .int .u32 b] w fun e w' => e = .returned (.tuple #[.int .u32 (bits .or .u32 a b), .int .u32 (wfl (bits .or .u32 a b)), .bool true]) ∧ w = w' := by
  obtain ⟨r0, r1⟩ := u32_of_nat .or (by simp) a b a0 a1 b0 b1
  go_enter Try.func15, Try.ntmps15
  go_wp2_with (go_at_call 20; refine (word_any _ r0 r1 _).mono ?_; rintro e w' ⟨rfl, rfl⟩)
  go_ret3
  exact ⟨rfl, rfl⟩
theorem do_xor (a b : Int) (a0 : 0 ≤ a) (a1 : a < 4294967296) (b0 : 0 ≤ b) (b1 : b < 4294967296) (w : World) :
    Calls Try.prog 15 #[.int .i64 20, .int .u32 a, .int .u32 b] w fun e w' => e = .returned (.tuple #[.int .u32 (bits .xor .u32 a b), .int .u32 (wfl (bits .xor .u32 a b)), .bool true]) ∧ w = w' := by
  obtain ⟨r0, r1⟩ := u32_of_nat .xor (by simp) a b a0 a1 b0 b1
  go_enter Try.func15, Try.ntmps15
  go_wp2_with (go_at_call 20; refine (word_any _ r0 r1 _).mono ?_; rintro e w' ⟨rfl, rfl⟩)
  go_ret3
  exact ⟨rfl, rfl⟩
theorem do_shl (a b : Int) (a0 : 0 ≤ a) (a1 : a < 4294967296) (b0 : 0 ≤ b) (b1 : b < 4294967296) (w : World) :
    Calls Try.prog 15 #[.int .i64 21, .int .u32 a, .int .u32 b] w fun e w' => e = .returned (.tuple #[.int .u32 (shlV a b), .int .u32 (wfl (shlV a b)), .bool true]) ∧ w = w' := by
  rw [← shl_eq]
  go_enter Try.func15, Try.ntmps15
  go_wp2_with (go_at_call 20; refine (word_any _ (by omega) (by omega) _).mono ?_; rintro e w' ⟨rfl, rfl⟩)
  go_ret3
  exact ⟨rfl, rfl⟩
theorem do_shr (a b : Int) (a0 : 0 ≤ a) (a1 : a < 4294967296) (b0 : 0 ≤ b) (b1 : b < 4294967296) (w : World) :
    Calls Try.prog 15 #[.int .i64 22, .int .u32 a, .int .u32 b] w fun e w' => e = .returned (.tuple #[.int .u32 (shrV a b), .int .u32 (wfl (shrV a b)), .bool true]) ∧ w = w' := by
  obtain ⟨r0, r1⟩ := shr_bd a b a0 a1
  rw [← shr_eq a b a0 a1] at r0 r1 ⊢
  go_enter Try.func15, Try.ntmps15
  go_wp2_with (go_at_call 20; refine (word_any _ r0 r1 _).mono ?_; rintro e w' ⟨rfl, rfl⟩)
  go_ret3
  exact ⟨rfl, rfl⟩
theorem do_mul (a b : Int) (a0 : 0 ≤ a) (a1 : a < 4294967296) (b0 : 0 ≤ b) (b1 : b < 4294967296) (w : World) :
    Calls Try.prog 15 #[.int .i64 23, .int .u32 a, .int .u32 b] w fun e w' => e = .returned (.tuple #[.int .u32 (a * b % 4294967296), .int .u32 (wfl (a * b % 4294967296)), .bool true]) ∧ w = w' := by
  go_enter Try.func15, Try.ntmps15
  go_wp2_with (go_at_call 20; refine (word_any _ (by omega) (by omega) _).mono ?_; rintro e w' ⟨rfl, rfl⟩)
  go_ret3
  exact ⟨rfl, rfl⟩
theorem do_div (a b : Int) (a0 : 0 ≤ a) (a1 : a < 4294967296) (b0 : 0 < b) (b1 : b < 4294967296) (w : World) :
    Calls Try.prog 15 #[.int .i64 24, .int .u32 a, .int .u32 b] w fun e w' => e = .returned (.tuple #[.int .u32 (a / b), .int .u32 (wfl (a / b)), .bool true]) ∧ w = w' := by
  obtain ⟨r0, r1⟩ := quo_bd a b a0 a1 b0
  have hz : (b == 0) = false := by simp; omega
  go_enter Try.func15, Try.ntmps15
  go_wp2_with (go_at_call 20; refine (word_any _ r0 r1 _).mono ?_; rintro e w' ⟨rfl, rfl⟩)
  go_ret3
  exact ⟨rfl, rfl⟩
theorem do_div0 (a : Int) (w : World) :
    Calls Try.prog 15 #[.int .i64 24, .int .u32 a, .int .u32 0] w fun e w' => e = .returned (.tuple #[.int .u32 0, .int .u32 0, .bool false]) ∧ w = w' := by
  go_enter Try.func15, Try.ntmps15
  go_wp2_with fail
  go_ret3
  exact ⟨rfl, rfl⟩
theorem do_none (op a b : Int) (h : op < 16 ∨ 25 < op) (w : World) :
    Calls Try.prog 15 #[.int .i64 op, .int .u32 a, .int .u32 b] w fun e w' => e = .returned (.tuple #[.int .u32 0, .int .u32 0, .bool false]) ∧ w = w' := by
  have h16 : (op == 16) = false := by simp; omega
  have h17 : (op == 17) = false := by simp; omega
  have h18 : (op == 18) = false := by simp; omega
  have h19 : (op == 19) = false := by simp; omega
  have h20 : (op == 20) = false := by simp; omega
  have h21 : (op == 21) = false := by simp; omega
  have h22 : (op == 22) = false := by simp; omega
  have h23 : (op == 23) = false := by simp; omega
  have h24 : (op == 24) = false := by simp; omega
  have h25 : (op == 25) = false := by simp; omega
  clear h
  go_enter Try.func15, Try.ntmps15
  go_wp2_with fail
  go_ret3
  exact ⟨rfl, rfl⟩
theorem do_any (op a b : Int) (a0 : 0 ≤ a) (a1 : a < 4294967296) (b0 : 0 ≤ b) (b1 : b < 4294967296) (w : World) :
    Calls Try.prog 15 #[.int .i64 op, .int .u32 a, .int .u32 b] w fun e w' => e = .returned (.tuple #[.int .u32 (doV op a b), .int .u32 (doF op a b), .bool (doK op b)]) ∧ w = w' := by
  by_cases h : op < 16 ∨ 25 < op
  · have e3 : doK op b = false := by
      unfold doK; simp; omega
    obtain ⟨e1, e2⟩ := do_not op a b e3
    rw [e1, e2, e3]; exact do_none op a b h w
  · have ho : op = 16 ∨ op = 17 ∨ op = 18 ∨ op = 19 ∨ op = 20 ∨ op = 21 ∨ op = 22 ∨ op = 23 ∨ op = 24 ∨ op = 25 := by omega
    clear h
    rcases ho with rfl | rfl | rfl | rfl | rfl | rfl | rfl | rfl | rfl | rfl
    · have h := do_add a b a0 a1 b0 b1 w
      simpa [doV, doF, doK] using h
    · have h := do_sub a b a0 a1 b0 b1 w
      simpa [doV, doF, doK] using h
    · have h := do_and a b a0 a1 b0 b1 w
      simpa [doV, doF, doK] using h
    · have h := do_or a b a0 a1 b0 b1 w
      simpa [doV, doF, doK] using h
    · have h := do_xor a b a0 a1 b0 b1 w
      simpa [doV, doF, doK] using h
    · have h := do_shl a b a0 a1 b0 b1 w
      simpa [doV, doF, doK] using h
    · have h := do_shr a b a0 a1 b0 b1 w
      simpa [doV, doF, doK] using h
    · have h := do_mul a b a0 a1 b0 b1 w
      simpa [doV, doF, doK] using h
    · by_cases z : b = 0
      · subst z
        have h := do_div0 a w
        simpa [doV, doF, doK] using h
      · have h := do_div a b a0 a1 (by omega) b1 w
        simpa [doV, doF, doK, z] using h
    · have h := do_cmp a b a0 a1 b0 b1 w
      simpa [doV, doF, doK] using h
theorem flags_any (op a b : Int) (a0 : 0 ≤ a) (a1 : a < 4294967296) (b0 : 0 ≤ b) (b1 : b < 4294967296) (w : World) :
    Calls Try.prog 16 #[.int .i64 op, .int .u32 a, .int .u32 b] w fun e w' => e = .returned (.tuple #[.int .u32 (doF op a b), .bool (doK op b)]) ∧ w = w' := by
  go_enter Try.func16, Try.ntmps16
  go_wp2_with (go_at_call 15; refine (do_any _ _ _ a0 a1 b0 b1 _).mono ?_; rintro e w' ⟨rfl, rfl⟩)
  go_ret2
  exact ⟨rfl, rfl⟩

/-! ### Holds, Sign -/
theorem holds_any (op f : Int) (w : World) :
    Calls Try.prog 10 #[.int .i64 op, .int .u32 f] w fun e w' => e = .returned (.tuple #[.bool (hoV op f), .bool (hoK op)]) ∧ w = w' := by
  by_cases h : op < 33 ∨ 37 < op
  · have e1 : hoV op f = false := by
      unfold hoV; simp only [show op ≠ 33 by omega, show op ≠ 34 by omega, show op ≠ 35 by omega, show op ≠ 36 by omega, show op ≠ 37 by omega, if_false]
    have e2 : hoK op = false := by unfold hoK; simp; omega
    have h33 : (op == 33) = false := by simp; omega
    have h34 : (op == 34) = false := by simp; omega
    have h35 : (op == 35) = false := by simp; omega
    have h36 : (op == 36) = false := by simp; omega
    have h37 : (op == 37) = false := by simp; omega
    rw [e1, e2]; clear h e1 e2
    go_enter Try.func10, Try.ntmps10
    go_wp2_with fail
    go_ret2
    exact ⟨rfl, rfl⟩
  · have ho : op = 33 ∨ op = 34 ∨ op = 35 ∨ op = 36 ∨ op = 37 := by omega
    clear h
    rcases ho with rfl | rfl | rfl | rfl | rfl
    all_goals
      go_enter Try.func10, Try.ntmps10
      go_wp2_with fail
      go_ret2
      exact ⟨by simp [hoV, hoK], rfl⟩
theorem sign_any (b : Int) (b0 : 0 ≤ b) (b1 : b < 4294967296) (w : World) :
    Calls Try.prog 12 #[.int .u32 b] w fun e w' => e = .returned (.int .u32 (sgnV b)) ∧ w = w' := by
  go_enter Try.func12, Try.ntmps12
  go_wp2_with fail
  go_ret
  exact ⟨ret_u32 (sgn_wrap b), rfl⟩
end Go.Proofs.Ytckggiclplgaiaa

/-
  WHAT THE FUNCTIONS OF innkeeper/innkeeperref1 COME TO: a contract each.
-/
import Derived.Test.YtckggiclplgaiaaArith
namespace Go.Proofs.Ytckggiclplgaiaa
open Go.RowKit
set_option linter.unusedSimpArgs false
set_option linter.unusedVariables false

set_option maxRecDepth 100000 in
theorem raw_add (a b : Int) (a0 : 0 ≤ a) (a1 : a < 4294967296) (b0 : 0 ≤ b) (b1 : b < 4294967296) (w : World) :
    Calls Try.prog 21 #[.int .i64 16, .int .u32 a, .int .u32 b] w fun e w' => e = .returned (.tuple #[.int .u32 ((a + b) % 4294967296), .int .u32 (crA a b), .bool true]) ∧ w = w' := by
  rcases Int.lt_or_le (a + b) 4294967296 with c | c
  · have em : (a + b) % 4294967296 = a + b := by omega
    rcases top_cases a a0 a1 with ea | ea <;> rcases top_cases b b0 b1 with eb | eb <;> rcases top_cases ((a + b) % 4294967296) (by omega) (by omega) with es | es
    all_goals (try (exfalso; omega))
    all_goals
      have hF : crA a b = (if (a / 2147483648 == b / 2147483648) && ((a + b) % 4294967296 / 2147483648 != a / 2147483648) then 8 else 0) := by
        unfold crA ovA; rw [if_neg (by omega), hi_div a a0 a1, hi_div b b0 b1, hi_div ((a + b) % 4294967296) (by omega) (by omega), ea, eb, es]; rfl
      rw [ea, eb, es] at hF; simp at hF
      rw [hF, em]; clear hF
      rw [em] at es; clear em
      go_enter Try.func21, Try.ntmps21
      go_wp2_with fail
      go_ret3
      exact ⟨rfl, rfl⟩
  · rcases top_cases a a0 a1 with ea | ea <;> rcases top_cases b b0 b1 with eb | eb <;> rcases top_cases ((a + b) % 4294967296) (by omega) (by omega) with es | es
    all_goals (try (exfalso; omega))
    all_goals
      have hF : crA a b = 4 + (if (a / 2147483648 == b / 2147483648) && ((a + b) % 4294967296 / 2147483648 != a / 2147483648) then 8 else 0) := by
        unfold crA ovA; rw [if_pos (by omega), hi_div a a0 a1, hi_div b b0 b1, hi_div ((a + b) % 4294967296) (by omega) (by omega), ea, eb, es]; rfl
      rw [ea, eb, es] at hF; simp at hF
      rw [hF]; clear hF
      go_enter Try.func21, Try.ntmps21
      go_wp2_with fail
      go_ret3
      exact ⟨rfl, rfl⟩

set_option maxRecDepth 100000 in
theorem raw_sub (op a b : Int) (ho : op = 17 ∨ op = 25) (a0 : 0 ≤ a) (a1 : a < 4294967296) (b0 : 0 ≤ b) (b1 : b < 4294967296) (w : World) :
    Calls Try.prog 21 #[.int .i64 op, .int .u32 a, .int .u32 b] w fun e w' => e = .returned (.tuple #[.int .u32 ((a - b) % 4294967296), .int .u32 (crS a b), .bool true]) ∧ w = w' := by
  rcases Int.lt_or_le a b with c | c
  · rcases top_cases a a0 a1 with ea | ea <;> rcases top_cases b b0 b1 with eb | eb <;> rcases top_cases ((a - b) % 4294967296) (by omega) (by omega) with es | es
    all_goals (try (exfalso; omega))
    all_goals
      have hF : crS a b = 4 + (if (a / 2147483648 != b / 2147483648) && ((a - b) % 4294967296 / 2147483648 != a / 2147483648) then 8 else 0) := by
        unfold crS ovS; rw [if_pos (by omega), hi_div a a0 a1, hi_div b b0 b1, hi_div ((a - b) % 4294967296) (by omega) (by omega), ea, eb, es]; rfl
      rw [ea, eb, es] at hF; simp at hF
      rw [hF]; clear hF
      rcases ho with rfl | rfl
    all_goals
      go_enter Try.func21, Try.ntmps21
      go_wp2_with fail
      go_ret3
      exact ⟨rfl, rfl⟩
  · have em : (a - b) % 4294967296 = a - b := by omega
    rcases top_cases a a0 a1 with ea | ea <;> rcases top_cases b b0 b1 with eb | eb <;> rcases top_cases ((a - b) % 4294967296) (by omega) (by omega) with es | es
    all_goals (try (exfalso; omega))
    all_goals
      have hF : crS a b = (if (a / 2147483648 != b / 2147483648) && ((a - b) % 4294967296 / 2147483648 != a / 2147483648) then 8 else 0) := by
        unfold crS ovS; rw [if_neg (by omega), hi_div a a0 a1, hi_div b b0 b1, hi_div ((a - b) % 4294967296) (by omega) (by omega), ea, eb, es]; rfl
      rw [ea, eb, es] at hF; simp at hF
      rw [hF, em]; clear hF
      rw [em] at es; clear em
      rcases ho with rfl | rfl
    all_goals
      go_enter Try.func21, Try.ntmps21
      go_wp2_with fail
      go_ret3
      exact ⟨rfl, rfl⟩

set_option maxRecDepth 100000 in
theorem raw_else (op a b : Int) (h : op ≠ 16 ∧ op ≠ 17 ∧ op ≠ 25) (a0 : 0 ≤ a) (a1 : a < 4294967296) (b0 : 0 ≤ b) (b1 : b < 4294967296) (w : World) :
    Calls Try.prog 21 #[.int .i64 op, .int .u32 a, .int .u32 b] w fun e w' => e = .returned (.tuple #[.int .u32 (doV op a b), .int .u32 0, .bool (doK op b)]) ∧ w = w' := by
  by_cases hn : op < 16 ∨ 25 < op
  · have e3 : doK op b = false := by
      unfold doK; simp; omega
    obtain ⟨e1, _⟩ := do_not op a b e3
    rw [e1, e3]; clear e1 e3
    have h16 : (op == 16) = false := by simp; omega
    have h17 : (op == 17) = false := by simp; omega
    have h18 : (op == 18) = false := by simp; omega
    have h19 : (op == 19) = false := by simp; omega
    have h20 : (op == 20) = false := by simp; omega
    have h21 : (op == 21) = false := by simp; omega
    have h22 : (op == 22) = false := by simp; omega
    have h23 : (op == 23) = false := by simp; omega
    have h24 : (op == 24) = false := by simp; omega
    have h25 : (op == 25) = false := by simp; omega
    clear h hn
    go_enter Try.func21, Try.ntmps21
    go_wp2_with fail
    go_ret3
    exact ⟨rfl, rfl⟩
  · have ho : op = 18 ∨ op = 19 ∨ op = 20 ∨ op = 23 ∨ op = 21 ∨ op = 22 ∨ op = 24 := by omega
    clear h hn
    rcases ho with rfl | rfl | rfl | rfl | ho
    iterate 4
      · go_enter Try.func21, Try.ntmps21
        go_wp2_with fail
        go_ret3
        exact ⟨by simp [doV, doK], rfl⟩
    rcases ho with rfl | rfl | rfl
    · have e1 : doV 21 a b = shlV a b := by simp [doV]
      have e2 : doK 21 b = true := by simp [doK]
      rw [e1, e2]; clear e1 e2
      by_cases hb : 32 ≤ b
      · have e3 : shlV a b = 0 := by unfold shlV; rw [if_pos hb]
        rw [e3]; clear e3
        go_enter Try.func21, Try.ntmps21
        go_wp2_with fail
        go_ret3
        exact ⟨rfl, rfl⟩
      · have e3 : shlV a b = a * 2 ^ b.toNat % 4294967296 := by unfold shlV; rw [if_neg hb]
        rw [e3]; clear e3
        have hb' : b < 32 := by omega
        go_enter Try.func21, Try.ntmps21
        go_wp2_with fail
        go_ret3
        exact ⟨rfl, rfl⟩
    · have e1 : doV 22 a b = shrV a b := by simp [doV]
      have e2 : doK 22 b = true := by simp [doK]
      rw [e1, e2]; clear e1 e2
      by_cases hb : 32 ≤ b
      · have e3 : shrV a b = 0 := by unfold shrV; rw [if_pos hb]
        rw [e3]; clear e3
        go_enter Try.func21, Try.ntmps21
        go_wp2_with fail
        go_ret3
        exact ⟨rfl, rfl⟩
      · have e3 : shrV a b = a / 2 ^ b.toNat := by unfold shrV; rw [if_neg hb]
        rw [e3]; clear e3
        have hb' : b < 32 := by omega
        go_enter Try.func21, Try.ntmps21
        go_wp2_with fail
        go_ret3
        exact ⟨rfl, rfl⟩
    · by_cases z : b = 0
      · subst z
        go_enter Try.func21, Try.ntmps21
        go_wp2_with fail
        go_ret3
        exact ⟨by simp [doV, doK], rfl⟩
      · have e1 : doV 24 a b = a / b := by simp [doV, z]
        have e2 : doK 24 b = true := by simp [doK, z]
        rw [e1, e2]; clear e1 e2
        have hz : (b != 0) = true := by simpa using z
        have hz' : (b == 0) = false := by simpa using z
        have hb : 1 ≤ b := by omega
        obtain ⟨q0, q1⟩ := quo_bd a b a0 a1 (by omega)
        go_enter Try.func21, Try.ntmps21
        go_wp2_with fail
        go_ret3
        exact ⟨rfl, rfl⟩

theorem raw_any (op a b : Int) (a0 : 0 ≤ a) (a1 : a < 4294967296) (b0 : 0 ≤ b) (b1 : b < 4294967296) (w : World) :
    Calls Try.prog 21 #[.int .i64 op, .int .u32 a, .int .u32 b] w fun e w' => e = .returned (.tuple #[.int .u32 (rawV op a b), .int .u32 (rawF op a b), .bool (doK op b)]) ∧ w = w' := by
  by_cases h16 : op = 16
  · subst h16
    have h := raw_add a b a0 a1 b0 b1 w
    simpa [rawV, rawF, doV, doK] using h
  by_cases h17 : op = 17
  · subst h17
    have h := raw_sub 17 a b (by simp) a0 a1 b0 b1 w
    simpa [rawV, rawF, doV, doK] using h
  by_cases h25 : op = 25
  · subst h25
    have h := raw_sub 25 a b (by simp) a0 a1 b0 b1 w
    simpa [rawV, rawF, doV, doK] using h
  · have h := raw_else op a b ⟨h16, h17, h25⟩ a0 a1 b0 b1 w
    simpa [rawV, rawF, h16, h17, h25] using h

theorem rdo_of (op a b R F : Int) (K : Bool) (R0 : 0 ≤ R) (R1 : R < 4294967296) (hF : F = 0 ∨ F = 4 ∨ F = 8 ∨ F = 12)
    (hc : ∀ w, Calls Try.prog 21 #[.int .i64 op, .int .u32 a, .int .u32 b] w fun e w' => e = .returned (.tuple #[.int .u32 R, .int .u32 F, .bool K]) ∧ w = w') (w : World) :
    Calls Try.prog 17 #[.int .i64 op, .int .u32 a, .int .u32 b] w fun e w' => e = .returned (.tuple #[.int .u32 (if K = true then (if op = 25 then 0 else R) else 0), .int .u32 (if K = true then wfl R + F else 0), .bool K]) ∧ w = w' := by
  have h1 := bits_or1 F hF
  have h2 := bits_or2 F hF
  clear hF
  cases K
  · go_enter Try.func17, Try.ntmps17
    go_wp2_with (go_at_call 21; refine (hc _).mono ?_; rintro e w' ⟨rfl, rfl⟩)
    go_ret3
    exact ⟨by simp, rfl⟩
  · by_cases z : R = 0
    · have hw := wfl_zero R z
      rw [hw]; clear hw; subst z
      by_cases h25 : op = 25
      · subst h25
        go_enter Try.func17, Try.ntmps17
        go_wp2_with (go_at_call 21; refine (hc _).mono ?_; rintro e w' ⟨rfl, rfl⟩)
        go_ret3
        exact ⟨by simp [h1, Int.add_comm], rfl⟩
      · have h25' : (op == 25) = false := by simpa using h25
        go_enter Try.func17, Try.ntmps17
        go_wp2_with (go_at_call 21; refine (hc _).mono ?_; rintro e w' ⟨rfl, rfl⟩)
        go_ret3
        exact ⟨by simp [h1, Int.add_comm], rfl⟩
    · have z' : (R == 0) = false := by simpa using z
      rcases Int.lt_or_le R 2147483648 with c | c
      · have hw := wfl_lo R (by omega) c
        rw [hw]; clear hw z
        by_cases h25 : op = 25
        · subst h25
          go_enter Try.func17, Try.ntmps17
          go_wp2_with (go_at_call 21; refine (hc _).mono ?_; rintro e w' ⟨rfl, rfl⟩)
          go_ret3
          exact ⟨by simp, rfl⟩
        · have h25' : (op == 25) = false := by simpa using h25
          go_enter Try.func17, Try.ntmps17
          go_wp2_with (go_at_call 21; refine (hc _).mono ?_; rintro e w' ⟨rfl, rfl⟩)
          go_ret3
          exact ⟨by simp [h25], rfl⟩
      · have hw := wfl_hi R c
        rw [hw]; clear hw z
        by_cases h25 : op = 25
        · subst h25
          go_enter Try.func17, Try.ntmps17
          go_wp2_with (go_at_call 21; refine (hc _).mono ?_; rintro e w' ⟨rfl, rfl⟩)
          go_ret3
          exact ⟨by simp [h2, Int.add_comm], rfl⟩
        · have h25' : (op == 25) = false := by simpa using h25
          go_enter Try.func17, Try.ntmps17
          go_wp2_with (go_at_call 21; refine (hc _).mono ?_; rintro e w' ⟨rfl, rfl⟩)
          go_ret3
          exact ⟨by simp [h25, h2, Int.add_comm], rfl⟩
theorem rdo_any (op a b : Int) (a0 : 0 ≤ a) (a1 : a < 4294967296) (b0 : 0 ≤ b) (b1 : b < 4294967296) (w : World) :
    Calls Try.prog 17 #[.int .i64 op, .int .u32 a, .int .u32 b] w fun e w' => e = .returned (.tuple #[.int .u32 (doV op a b), .int .u32 (doF op a b), .bool (doK op b)]) ∧ w = w' := by
  obtain ⟨R0, R1⟩ := rawV_bd op a b a0 a1 b0 b1
  have h := rdo_of op a b _ _ _ R0 R1 (rawF_cases op a b) (raw_any op a b a0 a1 b0 b1) w
  cases hk : doK op b
  · obtain ⟨e1, e2⟩ := do_not op a b hk
    rw [e1, e2]; rw [hk] at h; simpa using h
  · rw [doF_raw op a b hk, doV_raw op a b]; rw [hk] at h; simpa using h
theorem rholds_any (op f : Int) (w : World) :
    Calls Try.prog 11 #[.int .i64 op, .int .u32 f] w fun e w' => e = .returned (.tuple #[.bool (hoV op f), .bool (hoK op)]) ∧ w = w' := by
  by_cases h : op < 33 ∨ 37 < op
  · have e1 : hoV op f = false := by
      unfold hoV; simp only [show op ≠ 33 by omega, show op ≠ 34 by omega, show op ≠ 35 by omega, show op ≠ 36 by omega, show op ≠ 37 by omega, if_false]
    have e2 : hoK op = false := by unfold hoK; simp; omega
    have h33 : (op == 33) = false := by simp; omega
    have h34 : (op == 34) = false := by simp; omega
    have h35 : (op == 35) = false := by simp; omega
    have h36 : (op == 36) = false := by simp; omega
    have h37 : (op == 37) = false := by simp; omega
    rw [e1, e2]; clear h e1 e2
    go_enter Try.func11, Try.ntmps11
    go_wp2_with fail
    go_ret2
    exact ⟨rfl, rfl⟩
  · have ho : op = 33 ∨ op = 34 ∨ op = 35 ∨ op = 36 ∨ op = 37 := by omega
    clear h
    rcases ho with rfl | rfl | rfl | rfl | rfl
    all_goals
      go_enter Try.func11, Try.ntmps11
      go_wp2_with fail
      go_ret2
      exact ⟨by simp [hoV, hoK], rfl⟩
theorem rsign_any (b : Int) (b0 : 0 ≤ b) (b1 : b < 4294967296) (w : World) :
    Calls Try.prog 13 #[.int .u32 b] w fun e w' => e = .returned (.int .u32 (sgnV b)) ∧ w = w' := by
  by_cases h : 128 ≤ b % 256
  · have e : sgnV b = (b % 256 - 256) % 4294967296 := by unfold sgnV; rw [if_pos h]; omega
    rw [e]; clear e
    go_enter Try.func13, Try.ntmps13
    go_wp2_with fail
    go_ret
    exact ⟨rfl, rfl⟩
  · have e : sgnV b = b % 256 := by unfold sgnV; rw [if_neg h]
    rw [e]; clear e
    go_enter Try.func13, Try.ntmps13
    go_wp2_with fail
    go_ret
    exact ⟨rfl, rfl⟩
end Go.Proofs.Ytckggiclplgaiaa

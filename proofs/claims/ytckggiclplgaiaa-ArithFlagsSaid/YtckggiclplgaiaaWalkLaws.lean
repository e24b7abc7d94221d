/-
  innkeeperlaw1.ArithLaws, ArithOrders, ArithShifts, ArithFlags return true: their walks.
-/
import Derived.Test.YtckggiclplgaiaaLawOne
import Derived.Test.YtckggiclplgaiaaBits
import Derived.RowKit3
namespace Go.Proofs.Ytckggiclplgaiaa
open Go.RowKit
set_option linter.unusedSimpArgs false
set_option linter.unusedVariables false
/-- Do, its answer in other words -/
theorem do_of (op a b V F : Int) (K : Bool) (a0 : 0 ≤ a) (a1 : a < 4294967296) (b0 : 0 ≤ b) (b1 : b < 4294967296) (hV : doV op a b = V) (hF : doF op a b = F) (hK : doK op b = K) :
    ∀ w : World, Calls Try.prog 15 #[.int .i64 op, .int .u32 a, .int .u32 b] w fun e w' => e = .returned (.tuple #[.int .u32 V, .int .u32 F, .bool K]) ∧ w = w' := by
  intro w; subst hV; subst hF; subst hK; exact do_any op a b a0 a1 b0 b1 w

theorem laws_div (a b : Int) (a0 : 0 ≤ a) (b0 : 0 < b) : a / b * b ≤ a ∧ a - a / b * b < b ∧ 0 ≤ a / b * b := by
  have h1 := Int.mul_ediv_add_emod a b
  have h2 := Int.emod_nonneg a (show b ≠ 0 by omega)
  have h3 := Int.emod_lt_of_pos a b0
  have h4 : a / b * b = b * (a / b) := Int.mul_comm _ _
  have h5 := Int.mul_nonneg (Int.ediv_nonneg a0 (Int.le_of_lt b0)) (Int.le_of_lt b0)
  rw [h4] at *
  omega

set_option maxHeartbeats 1000000 in
theorem laws_walk (a b : Int) (w0 : (Lit.int .u32 a).wf = true) (w1 : (Lit.int .u32 b).wf = true) (w : World) :
    Calls Try.prog 5 #[.int .u32 a, .int .u32 b] w fun e w' => e = .returned (.bool true) ∧ Grown w w' := by
  obtain ⟨a0, a1⟩ := u32_of_wf w0
  obtain ⟨b0, b1⟩ := u32_of_wf w1
  clear w0 w1
  obtain ⟨s, hs⟩ : ∃ s, s = (a + b) % 4294967296 := ⟨_, rfl⟩
  have s0 : 0 ≤ s := by omega
  have s1 : s < 4294967296 := by omega
  have c1 := do_of 16 a b s _ true a0 a1 b0 b1 (by simp [doV, hs]) rfl (by simp [doK])
  have c2 := do_of 17 s b a _ true s0 s1 b0 b1 (by simp [doV]; omega) rfl (by simp [doK])
  have hno := bits_and_or a b a0 a1 b0 b1
  have hxo := bits_xor_and a b a0 a1 b0 b1
  have c3 := do_of 18 a b (bits .and .u32 a b) _ true a0 a1 b0 b1 (by simp [doV]) rfl (by simp [doK])
  have c4 := do_of 19 a b (bits .or .u32 a b) _ true a0 a1 b0 b1 (by simp [doV]) rfl (by simp [doK])
  have c5 := do_of 20 a b (bits .or .u32 a b - bits .and .u32 a b) _ true a0 a1 b0 b1 (by simp [doV]; omega) rfl (by simp [doK])
  obtain ⟨n0, n1⟩ := u32_of_nat .and (by simp) a b a0 a1 b0 b1
  obtain ⟨o0, o1⟩ := u32_of_nat .or (by simp) a b a0 a1 b0 b1
  obtain ⟨x0, x1⟩ := u32_of_nat .xor (by simp) a b a0 a1 b0 b1
  generalize bits .and .u32 a b = n at *
  generalize bits .or .u32 a b = o at *
  generalize bits .xor .u32 a b = x at *
  have c6 := do_of 16 n o s _ true n0 n1 o0 o1 (by simp [doV]; omega) rfl (by simp [doK])
  have hnle : n ≤ o := by omega
  obtain ⟨y, hy⟩ : ∃ y, y = b % 32 := ⟨_, rfl⟩
  have y0 : 0 ≤ y := by omega
  have y1 : y < 32 := by omega
  obtain ⟨u0, u1⟩ := shl_bd a y
  have c9 := do_of 21 a (b % 32) (shlV a y) _ true a0 a1 (by omega) (by omega) (by simp [doV, hy]) rfl (by simp [doK])
  have c10 := do_of 22 (shlV a y) (b % 32) (a * 2 ^ (b % 32).toNat % 4294967296 / 2 ^ (b % 32).toNat) _ true u0 u1 (by omega) (by omega) (by simp [doV, shrV, shlV, ← hy, show ¬ (32 ≤ y) by omega]) rfl (by simp [doK])
  generalize shlV a y = u at *
  generalize doF 16 a b = F1 at *
  generalize doF 17 s b = F2 at *
  generalize doF 18 a b = F3 at *
  generalize doF 19 a b = F4 at *
  generalize doF 20 a b = F5 at *
  generalize doF 16 n o = F6 at *
  generalize doF 21 a (b % 32) = F9 at *
  generalize doF 22 u (b % 32) = F10 at *
  clear hs hno hxo x0 x1 hy y0 y1 x y
  by_cases hb : b = 0
  · have c7 := do_of 24 a b 0 0 false a0 a1 b0 b1 (by simp [doV, hb]) (by simp [doF, doK, hb]) (by simp [doK, hb])
    have c8 := do_of 23 0 b 0 _ true (by omega) (by omega) b0 b1 (by simp [doV]) rfl (by simp [doK])
    generalize doF 23 0 b = F8 at *
    have hz : (b != 0) = false := by simp [hb]
    clear hb
    go_enter Try.func5, Try.ntmps5
    go_wp2_with (first | (go_at_call 14; refine (known_any _).mono ?_; rintro e w' ⟨rfl, rfl⟩) | (go_at_call 15; first | ((with_reducible refine (c1 _).mono ?_); rintro e w' ⟨rfl, rfl⟩) | ((with_reducible refine (c2 _).mono ?_); rintro e w' ⟨rfl, rfl⟩) | ((with_reducible refine (c3 _).mono ?_); rintro e w' ⟨rfl, rfl⟩) | ((with_reducible refine (c4 _).mono ?_); rintro e w' ⟨rfl, rfl⟩) | ((with_reducible refine (c5 _).mono ?_); rintro e w' ⟨rfl, rfl⟩) | ((with_reducible refine (c6 _).mono ?_); rintro e w' ⟨rfl, rfl⟩) | ((with_reducible refine (c7 _).mono ?_); rintro e w' ⟨rfl, rfl⟩) | ((with_reducible refine (c8 _).mono ?_); rintro e w' ⟨rfl, rfl⟩) | ((with_reducible refine (c9 _).mono ?_); rintro e w' ⟨rfl, rfl⟩) | ((with_reducible refine (c10 _).mono ?_); rintro e w' ⟨rfl, rfl⟩)))
    go_ret
    exact ⟨rfl, Grown.refl _⟩
  · obtain ⟨m1, m2, m0⟩ := laws_div a b a0 (by omega)
    obtain ⟨q0, q1⟩ := quo_bd a b a0 a1 (by omega)
    have c7 := do_of 24 a b (a / b) _ true a0 a1 b0 b1 (by simp [doV, hb]) rfl (by simp [doK, hb])
    have c8 := do_of 23 (a / b) b (a / b * b) _ true q0 q1 b0 b1 (by simp [doV]; omega) rfl (by simp [doK])
    generalize a / b * b = m at *
    generalize a / b = q at *
    generalize doF 24 a b = F7 at *
    generalize doF 23 q b = F8 at *
    have hz : (b != 0) = true := by simpa using hb
    clear hb
    go_enter Try.func5, Try.ntmps5
    go_wp2_with (first | (go_at_call 14; refine (known_any _).mono ?_; rintro e w' ⟨rfl, rfl⟩) | (go_at_call 15; first | ((with_reducible refine (c1 _).mono ?_); rintro e w' ⟨rfl, rfl⟩) | ((with_reducible refine (c2 _).mono ?_); rintro e w' ⟨rfl, rfl⟩) | ((with_reducible refine (c3 _).mono ?_); rintro e w' ⟨rfl, rfl⟩) | ((with_reducible refine (c4 _).mono ?_); rintro e w' ⟨rfl, rfl⟩) | ((with_reducible refine (c5 _).mono ?_); rintro e w' ⟨rfl, rfl⟩) | ((with_reducible refine (c6 _).mono ?_); rintro e w' ⟨rfl, rfl⟩) | ((with_reducible refine (c7 _).mono ?_); rintro e w' ⟨rfl, rfl⟩) | ((with_reducible refine (c8 _).mono ?_); rintro e w' ⟨rfl, rfl⟩) | ((with_reducible refine (c9 _).mono ?_); rintro e w' ⟨rfl, rfl⟩) | ((with_reducible refine (c10 _).mono ?_); rintro e w' ⟨rfl, rfl⟩)))
    go_ret
    exact ⟨rfl, Grown.refl _⟩

theorem holds_of (op f : Int) (V K : Bool) (hV : hoV op f = V) (hK : hoK op = K) :
    ∀ w : World, Calls Try.prog 10 #[.int .i64 op, .int .u32 f] w fun e w' => e = .returned (.tuple #[.bool V, .bool K]) ∧ w = w' := by
  intro w; subst hV; subst hK; exact holds_any op f w
theorem orders_walk (a b : Int) (w0 : (Lit.int .u32 a).wf = true) (w1 : (Lit.int .u32 b).wf = true) (w : World) :
    Calls Try.prog 6 #[.int .u32 a, .int .u32 b] w fun e w' => e = .returned (.bool true) ∧ Grown w w' := by
  obtain ⟨a0, a1⟩ := u32_of_wf w0
  obtain ⟨b0, b1⟩ := u32_of_wf w1
  clear w0 w1
  obtain ⟨h1, h2, h3, h4, h5⟩ := sub_holds a b a0 a1 b0 b1
  have hs := sub_less a b a0 a1 b0 b1
  rw [← sg_wrap32 a a0 a1, ← sg_wrap32 b b0 b1] at hs
  have hs' : (hi ((a - b) % 4294967296) == ovS a b) = !decide (wrap32 a < wrap32 b) := by
    rw [← hs]; cases hi ((a - b) % 4294967296) <;> cases ovS a b <;> rfl
  clear hs
  have c1 := do_of 25 a b 0 (subFl a b) true a0 a1 b0 b1 (by simp [doV]) (by simp [doF]) (by simp [doK])
  have c2 : ∀ w : World, Calls Try.prog 16 #[.int .i64 17, .int .u32 a, .int .u32 b] w fun e w' => e = .returned (.tuple #[.int .u32 (subFl a b), .bool true]) ∧ w = w' := by
    intro w; have h := flags_any 17 a b a0 a1 b0 b1 w
    simpa [doF, doK] using h
  have k1 := holds_of 33 (subFl a b) _ true h1 (by simp [hoK])
  have k2 := holds_of 34 (subFl a b) _ true h2 (by simp [hoK])
  have k3 := holds_of 35 (subFl a b) _ true h3 (by simp [hoK])
  have k4 := holds_of 36 (subFl a b) _ true h4 (by simp [hoK])
  have k5 := holds_of 37 (subFl a b) _ true h5 (by simp [hoK])
  generalize subFl a b = F at *
  generalize hi ((a - b) % 4294967296) = N at *
  generalize ovS a b = O at *
  clear h1 h2 h3 h4 h5
  go_enter Try.func6, Try.ntmps6
  go_wp2_with (first | (go_at_call 14; refine (known_any _).mono ?_; rintro e w' ⟨rfl, rfl⟩) | (go_at_call 15; refine (c1 _).mono ?_; rintro e w' ⟨rfl, rfl⟩) | (go_at_call 16; refine (c2 _).mono ?_; rintro e w' ⟨rfl, rfl⟩) | (go_at_call 10; first | ((with_reducible refine (k1 _).mono ?_); rintro e w' ⟨rfl, rfl⟩) | ((with_reducible refine (k2 _).mono ?_); rintro e w' ⟨rfl, rfl⟩) | ((with_reducible refine (k3 _).mono ?_); rintro e w' ⟨rfl, rfl⟩) | ((with_reducible refine (k4 _).mono ?_); rintro e w' ⟨rfl, rfl⟩) | ((with_reducible refine (k5 _).mono ?_); rintro e w' ⟨rfl, rfl⟩)))
  go_ret
  exact ⟨rfl, Grown.refl _⟩

set_option maxHeartbeats 1000000 in
set_option maxRecDepth 100000 in
theorem shifts_walk (a b c : Int) (w0 : (Lit.int .u32 a).wf = true) (w1 : (Lit.int .u32 b).wf = true) (w2 : (Lit.int .u32 c).wf = true) (w : World) :
    Calls Try.prog 7 #[.int .u32 a, .int .u32 b, .int .u32 c] w fun e w' => e = .returned (.bool true) ∧ Grown w w' := by
  obtain ⟨a0, a1⟩ := u32_of_wf w0
  obtain ⟨b0, b1⟩ := u32_of_wf w1
  obtain ⟨d0, d1⟩ := u32_of_wf w2
  clear w0 w1 w2
  have hv := shl_two a (b % 40) (c % 40) (by omega) (by omega)
  have hq := shr_two a (b % 40) (c % 40) a0 a1 (by omega) (by omega)
  obtain ⟨u0, u1⟩ := shl_bd a (b % 40)
  obtain ⟨p0, p1⟩ := shr_bd a (b % 40) a0 a1
  have c1 := do_of 21 a (b % 40) (shlV a (b % 40)) _ true a0 a1 (by omega) (by omega) (by simp [doV]) rfl (by simp [doK])
  have c2 := do_of 21 (shlV a (b % 40)) (c % 40) (shlV a (b % 40 + c % 40)) _ true u0 u1 (by omega) (by omega) (by simp [doV, hv]) rfl (by simp [doK])
  have c3 := do_of 21 a (b % 40 + c % 40) (shlV a (b % 40 + c % 40)) _ true a0 a1 (by omega) (by omega) (by simp [doV]) rfl (by simp [doK])
  have c4 := do_of 22 a (b % 40) (shrV a (b % 40)) _ true a0 a1 (by omega) (by omega) (by simp [doV]) rfl (by simp [doK])
  have c5 := do_of 22 (shrV a (b % 40)) (c % 40) (shrV a (b % 40 + c % 40)) _ true p0 p1 (by omega) (by omega) (by simp [doV, hq]) rfl (by simp [doK])
  have c6 := do_of 22 a (b % 40 + c % 40) (shrV a (b % 40 + c % 40)) _ true a0 a1 (by omega) (by omega) (by simp [doV]) rfl (by simp [doK])
  have hfar : shlV a (32 + b % 1000000) = 0 := by unfold shlV; rw [if_pos (by omega)]
  have c7 := do_of 21 a (32 + b % 1000000) 0 1 true a0 a1 (by omega) (by omega) (by simp [doV, hfar]) (by simp [doF, doK, doV, hfar, wfl]) (by simp [doK])
  have hm := mul_shl a (b % 32) (by omega) (by omega)
  have c8 := do_of 23 a (2 ^ (b % 32).toNat % 4294967296) (shlV a (b % 32)) _ true a0 a1 (by omega) (by omega) (by simp [doV] at hm ⊢; exact hm) rfl (by simp [doK])
  have c9 := do_of 21 a (b % 32) (shlV a (b % 32)) _ true a0 a1 (by omega) (by omega) (by simp [doV]) rfl (by simp [doK])
  obtain ⟨v0, v1⟩ := shl_bd a (b % 40 + c % 40)
  obtain ⟨r0, r1⟩ := shr_bd a (b % 40 + c % 40) a0 a1
  obtain ⟨m0, m1⟩ := shl_bd a (b % 32)
  clear hv hq hfar hm
  generalize shlV a (b % 40) = U at *
  generalize shrV a (b % 40) = P at *
  generalize shlV a (b % 40 + c % 40) = V at *
  generalize shrV a (b % 40 + c % 40) = R at *
  generalize shlV a (b % 32) = M at *
  generalize doF 21 a (b % 40) = F1 at *
  generalize doF 21 U (c % 40) = F2 at *
  generalize doF 21 a (b % 40 + c % 40) = F3 at *
  generalize doF 22 a (b % 40) = F4 at *
  generalize doF 22 P (c % 40) = F5 at *
  generalize doF 22 a (b % 40 + c % 40) = F6 at *
  generalize doF 23 a (2 ^ (b % 32).toNat % 4294967296) = F8 at *
  generalize doF 21 a (b % 32) = F9 at *
  go_enter Try.func7, Try.ntmps7
  go_wp2_with (first | (go_at_call 14; refine (known_any _).mono ?_; rintro e w' ⟨rfl, rfl⟩) | (go_at_call 15; first | ((with_reducible refine (c1 _).mono ?_); rintro e w' ⟨rfl, rfl⟩) | ((with_reducible refine (c2 _).mono ?_); rintro e w' ⟨rfl, rfl⟩) | ((with_reducible refine (c3 _).mono ?_); rintro e w' ⟨rfl, rfl⟩) | ((with_reducible refine (c4 _).mono ?_); rintro e w' ⟨rfl, rfl⟩) | ((with_reducible refine (c5 _).mono ?_); rintro e w' ⟨rfl, rfl⟩) | ((with_reducible refine (c6 _).mono ?_); rintro e w' ⟨rfl, rfl⟩) | ((with_reducible refine (c7 _).mono ?_); rintro e w' ⟨rfl, rfl⟩) | ((with_reducible refine (c8 _).mono ?_); rintro e w' ⟨rfl, rfl⟩) | ((with_reducible refine (c9 _).mono ?_); rintro e w' ⟨rfl, rfl⟩)))
  go_ret
  exact ⟨rfl, Grown.refl _⟩
end Go.Proofs.Ytckggiclplgaiaa

/-
  frames: Promise: A CONTRACT.
-/
import Derived.Test.YtoejpdhcibbgdaaPm
namespace Go.Proofs.Ytoejpdhcibbgdaa
open Go.RowKit
set_option linter.unusedSimpArgs false
set_option linter.unusedVariables false

theorem promV_no {S : Po} {o n : Int} (h : oB o = false ∨ n < 0 ∨ 64 < n) : S.promV o n = 1 := by unfold Po.promV; rw [if_pos h]
theorem promS_no {S : Po} {o n : Int} (h : S.promV o n ≠ 0) : S.promS o n = S := by unfold Po.promS; rw [if_neg h]
/-- what Promise leaves -/
def Promd (S : Po) (g : Nat) (o n : Int) (w : World) (e : Ending) (w' : World) : Prop :=
  e = .returned (.int .i64 (S.promV o n)) ∧ IsP w' g (S.promS o n) ∧ Turn g g w w'
def Rpromd (S : Po) (g : Nat) (o n : Int) (w : World) (e : Ending) (w' : World) : Prop :=
  e = .returned (.int .i64 (S.promV o n)) ∧ IsR w' g (S.promS o n) ∧ Turn g g w w'
section
variable {g : Nat} {S : Po}
theorem promV_cases (S : Po) (o n : Int) : (S.promV o n = 1 ∧ (oB o = false ∨ n < 0 ∨ 64 < n)) ∨ (oB o = true ∧ 0 ≤ n ∧ n ≤ 64 ∧ ((S.promV o n = 24 ∧ neB (S.prom o.toNat) = true) ∨ (neB (S.prom o.toNat) = false ∧ ((S.promV o n = 13 ∧ 240 < S.allP 4 + n) ∨ (S.promV o n = 0 ∧ S.allP 4 + n ≤ 240))))) := by
  unfold Po.promV
  by_cases h : oB o = false ∨ n < 0 ∨ 64 < n
  · rw [if_pos h]; exact .inl ⟨rfl, h⟩
  · rw [if_neg h]
    have h1 : oB o = true := by cases hb : oB o <;> simp [hb] at h ⊢
    refine .inr ⟨h1, by omega, by omega, ?_⟩
    cases h2 : neB (S.prom o.toNat)
    · rw [if_neg (by simp)]
      by_cases h3 : 240 < S.allP 4 + n
      · rw [if_pos h3]; exact .inr ⟨rfl, .inl ⟨rfl, h3⟩⟩
      · rw [if_neg h3]; exact .inr ⟨rfl, .inr ⟨rfl, by omega⟩⟩
    · rw [if_pos rfl]; exact .inl ⟨rfl, rfl⟩
set_option maxRecDepth 100000 in
theorem promise_any (o n : Int) (w : World) (hP : IsP w g S) :
    Calls Try.prog 39 #[.pointer (some ⟨g, 0, none⟩), .int .i64 o, .int .i64 n] w (Promd S g o n w) := by
  have hh := isOwner_any o
  have HP := Lib.hid hP
  have hz := hP.z
  have hall := allP_bd hP.good 4
  unfold Promd
  rcases promV_cases S o n with ⟨hv, h⟩ | ⟨ho, h0, h1, h⟩
  · have hs := promS_no (S := S) (o := o) (n := n) (by rw [hv]; decide)
    rw [hv, hs]
    clear hP hv hs hall
    cases hb : oB o
    · rw [hb] at hh
      have HH := Lib.hid hh
      clear hh h hb
      go_enter Try.func39, Try.ntmps39
      go_wp2_with (go_at_call 49; refine (HH.out _).mono ?_; rintro e w' ⟨rfl, rfl⟩)
      go_ret
      exact ⟨rfl, HP.out, Turn.refl _ _ _⟩
    · rw [hb] at hh
      rw [hb] at h
      simp only [Bool.true_eq_false, false_or] at h
      have HH := Lib.hid hh
      clear hh hb
      by_cases h2 : n < 0
      · clear h
        go_enter Try.func39, Try.ntmps39
        go_wp2_with (go_at_call 49; refine (HH.out _).mono ?_; rintro e w' ⟨rfl, rfl⟩)
        go_ret
        exact ⟨rfl, HP.out, Turn.refl _ _ _⟩
      · have h3 : 64 < n := by omega
        have h4 : 0 ≤ n := by omega
        have h5 : decide (n < 0) = false := by simp; omega
        clear h h2
        go_enter Try.func39, Try.ntmps39
        go_wp2_with (go_at_call 49; refine (HH.out _).mono ?_; rintro e w' ⟨rfl, rfl⟩)
        go_ret
        exact ⟨rfl, HP.out, Turn.refl _ _ _⟩
  · obtain ⟨k, rfl, hk⟩ := oB_true ho
    rw [ho] at hh
    rw [Int.toNat_natCast] at h
    have hc := hP.md k hk
    have hf := hP.fr (16896 + k * 2)
    have hf1 := hP.fr (16896 + k * 2 + 1)
    have hc1 := hP.pr k hk
    have h5 : decide (n < 0) = false := by simp; omega
    have h6 : decide (n > 64) = false := by simp; omega
    have HH := Lib.hid hh
    have HA := Lib.hid (allPromised_any w hP)
    have HG := Lib.hid (fun h => hP.setProm k hk n (.inr ⟨h0, h1⟩) true n (by simpa [neB] using h0) h)
    have hps : pos n = n := by unfold pos; rw [if_pos h0]
    have HPS := Lib.hid hps
    rcases h with ⟨hv, h⟩ | ⟨hq, h⟩
    · have hs := promS_no (S := S) (o := (k : Int)) (n := n) (by rw [hv]; decide)
      rw [hv, hs]
      rw [h] at hc
      generalize pos (S.prom k) = x at *
      clear hh hv hs ho h hP hall HA HG hps
      go_enter Try.func39, Try.ntmps39
      go_wp2_with (go_at_call 49; refine (HH.out _).mono ?_; rintro e w' ⟨rfl, rfl⟩)
      go_ret
      exact ⟨rfl, HP.out, Turn.refl _ _ _⟩
    · rw [hq] at hc
      generalize ha : S.allP 4 = x at *
      have HAX := Lib.hid ha
      rcases h with ⟨hv, h⟩ | ⟨hv, h⟩
      · have hs := promS_no (S := S) (o := (k : Int)) (n := n) (by rw [hv]; decide)
        rw [hv, hs]
        generalize pos (S.prom k) = y at *
        clear hh hv hs ho hP HG ha hps
        go_enter Try.func39, Try.ntmps39
        go_wp2_with (first
          | (go_at_call 49; refine (HH.out _).mono ?_; rintro e w' ⟨rfl, rfl⟩)
          | (go_at_call 50; refine HA.out.mono ?_; rintro e w1 ⟨rfl, hb⟩; have HB := Lib.hid hb; clear hb))
        go_ret
        exact ⟨rfl, HP.out.below HB.out, Turn.of_below HB.out⟩
      · have hs : S.promS (k : Int) n = { S with prom := upd S.prom k n } := by unfold Po.promS; rw [if_pos hv, Int.toNat_natCast]
        rw [hv, hs]
        have HH0 := Lib.hid h0
        have HH1 := Lib.hid h1
        have HPR := Lib.hid hc1
        clear hh hv hs ho hP ha hc1 hf hf1 hps HG HPS
        generalize pos (S.prom k) = y at *
        go_enter Try.func39, Try.ntmps39
        go_wp2_with (first
          | (go_at_call 49; refine (HH.out _).mono ?_; rintro e w' ⟨rfl, rfl⟩)
          | (go_at_call 50; refine HA.out.mono ?_; rintro e w1 ⟨rfl, hb⟩
             have hp1 := HP.out.below hb
             have d1 := hp1.md k hk
             have d2 := hp1.pr k hk
             have d3 := hp1.fr (16896 + k * 2)
             have d4 := hp1.fr (16896 + k * 2 + 1)
             have HP1 := Lib.hid hp1
             have HB := Lib.hid hb
             clear hb hp1))
        go_ret
        refine ⟨rfl, HP1.out.setProm k hk n (.inr ⟨HH0.out, HH1.out⟩) true n (by simpa [neB] using HH0.out) (by unfold pos; rw [if_pos HH0.out]), (Turn.of_below HB.out).trans (((Turn.refl _ _ _).setG _ _).setG _ _)⟩
end
end Go.Proofs.Ytoejpdhcibbgdaa

/-
  WHAT IS WRITTEN IS READ, AND BACK: plain lists and numbers.
-/
import Derived.Test.YtaghblcboimbpaaHc6
namespace Go.Proofs.Ytaghblcboimbpaa
open Go.RowKit
set_option linter.unusedSimpArgs false
set_option linter.unusedVariables false

theorem list8 {l : List UInt8} (h : l.length = 8) : l = [l.getD 0 0, l.getD 1 0, l.getD 2 0, l.getD 3 0, l.getD 4 0, l.getD 5 0, l.getD 6 0, l.getD 7 0] := by
  have := take_of_len (l := l) (k := 8) (by omega)
  rw [List.take_of_length_le (by omega)] at this
  exact this
/-- what is read is written as it stood -/
theorem dc_ec (l : List UInt8) (h : dcE l = 0) : l.length = 8 ∧ (dcI l).Ok ∧ (dcI l).enc = l := by
  have h' := h
  unfold dcE at h'
  split at h'
  · omega
  rename_i h8
  have h8 : l.length = 8 := by omega
  split at h'
  case isFalse => omega
  rename_i hk
  have e : dcI l = rawI l := by simp [dcI, h]
  rw [e]
  refine ⟨h8, ⟨hk, nmI_bd l⟩, ?_⟩
  have n4 := nth_bd l 4
  have n5 := nth_bd l 5
  have n6 := nth_bd l 6
  have n7 := nth_bd l 7
  have b4 : byt (nmI l) = l.getD 4 0 := by
    rw [← byt_nth l 4]; apply UInt8.toNat_inj.1
    have a1 := byt_val (nmI l) (nmI_bd l).1
    have a2 := byt_val (nth l 4) (by omega)
    unfold nmI at *
    omega
  have b5 : byt (nmI l / 256) = l.getD 5 0 := by
    rw [← byt_nth l 5]; apply UInt8.toNat_inj.1
    have a1 := byt_val (nmI l / 256) (by have := (nmI_bd l).1; omega)
    have a2 := byt_val (nth l 5) (by omega)
    unfold nmI at *
    omega
  have b6 : byt (nmI l / 65536) = l.getD 6 0 := by
    rw [← byt_nth l 6]; apply UInt8.toNat_inj.1
    have a1 := byt_val (nmI l / 65536) (by have := (nmI_bd l).1; omega)
    have a2 := byt_val (nth l 6) (by omega)
    unfold nmI at *
    omega
  have b7 : byt (nmI l / 16777216) = l.getD 7 0 := by
    rw [← byt_nth l 7]; apply UInt8.toNat_inj.1
    have a1 := byt_val (nmI l / 16777216) (by have := (nmI_bd l).1; omega)
    have a2 := byt_val (nth l 7) (by omega)
    unfold nmI at *
    omega
  rw [list8 h8]
  show ehV (nth l 0) (nth l 1) (nth l 2) (nth l 3) (nmI l) = _
  unfold ehV
  rw [b4, b5, b6, b7, byt_nth, byt_nth, byt_nth, byt_nth]
theorem byt_eq (x : Int) (h : 0 ≤ x) (h1 : x < 256) : ((byt x).toNat : Int) = x := byt_of x h h1
/-- what is written is read -/
theorem ec_dc (p : Hi) (h : p.Ok) : dcE p.enc = 0 ∧ dcI p.enc = p := by
  obtain ⟨hk, n0, n1⟩ := h
  obtain ⟨⟨o0, o1⟩, ⟨d0, d1⟩, ⟨a0, a1⟩, ⟨b0, b1⟩⟩ := okH_bd hk
  have e0 : nth p.enc 0 = p.o := byt_of p.o o0 (by omega)
  have e1 : nth p.enc 1 = p.d := byt_of p.d d0 (by omega)
  have e2 : nth p.enc 2 = p.a := byt_of p.a a0 (by omega)
  have e3 : nth p.enc 3 = p.b := byt_of p.b b0 (by omega)
  have e4 : nth p.enc 4 = p.n % 256 := byt_val p.n n0
  have e5 : nth p.enc 5 = p.n / 256 % 256 := byt_val (p.n / 256) (by omega)
  have e6 : nth p.enc 6 = p.n / 65536 % 256 := byt_val (p.n / 65536) (by omega)
  have e7 : nth p.enc 7 = p.n / 16777216 % 256 := byt_val (p.n / 16777216) (by omega)
  have eN : nmI p.enc = p.n := by unfold nmI; rw [e4, e5, e6, e7]; omega
  have er : rawI p.enc = p := Hi.ext' e0 e1 e2 e3 eN
  have eE : dcE p.enc = 0 := by unfold dcE; rw [er, if_neg (by simp [Hi.enc_len]), if_pos hk]
  exact ⟨eE, by unfold dcI; rw [if_pos eE, er]⟩
theorem enc_take (p : Hi) (x : List UInt8) : (p.enc ++ x).take 8 = p.enc := by
  rw [List.take_append_of_le_length (by rw [Hi.enc_len]; omega), List.take_of_length_le (by rw [Hi.enc_len]; omega)]
/-- two ways to read bytes are one -/
theorem all_one (L M : List Hi) (r s : List UInt8) (hL : ∀ p ∈ L, p.Ok) (hM : ∀ p ∈ M, p.Ok) (h : encs L ++ r = encs M ++ s) (hr : dcE (r.take 8) ≠ 0) (hs : dcE (s.take 8) ≠ 0) : L = M ∧ r = s := by
  induction L generalizing M with
  | nil =>
    cases M with
    | nil => exact ⟨rfl, by simpa [encs] using h⟩
    | cons q M =>
      rw [encs_nil, List.nil_append, encs_cons, List.append_assoc] at h
      rw [h, enc_take] at hr
      exact absurd (ec_dc q (hM q (by simp))).1 hr
  | cons p L ih =>
    cases M with
    | nil =>
      rw [encs_nil, List.nil_append, encs_cons, List.append_assoc] at h
      rw [← h, enc_take] at hs
      exact absurd (ec_dc p (hL p (by simp))).1 hs
    | cons q M =>
      rw [encs_cons, encs_cons, List.append_assoc, List.append_assoc] at h
      have h1 := congrArg (List.take 8) h
      rw [enc_take, enc_take] at h1
      have hpq : p = q := by
        rw [← (ec_dc p (hL p (by simp))).2, ← (ec_dc q (hM q (by simp))).2, h1]
      subst hpq
      have h2 := List.append_cancel_left h
      obtain ⟨h3, h4⟩ := ih M (fun x hx => hL x (by simp [hx])) (fun x hx => hM x (by simp [hx])) h2
      exact ⟨by rw [h3], h4⟩
theorem dcE_nil : dcE (([] : List UInt8).take 8) ≠ 0 := by decide
theorem dcE_short {r : List UInt8} (h : r.length < 8) : dcE (r.take 8) = 10 := by
  unfold dcE; rw [if_pos (by rw [List.length_take]; omega)]
theorem dcE_cases (x : List UInt8) : dcE x = 0 ∨ (dcE x = 10 ∧ x.length ≠ 8) ∨ (dcE x = 12 ∧ x.length = 8) := by
  unfold dcE
  by_cases h : x.length = 8
  · rw [if_neg (by omega)]; split
    · simp
    · simp [h]
  · simp [h]
end Go.Proofs.Ytaghblcboimbpaa

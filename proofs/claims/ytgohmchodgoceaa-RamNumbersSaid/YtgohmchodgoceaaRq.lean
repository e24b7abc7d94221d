/-
  A word at once, or byte by byte: by value alone.
-/
import Derived.Test.YtgohmchodgoceaaRr
namespace Go.Proofs.Ytgohmchodgoceaa
open Go.RowKit
set_option linter.unusedSimpArgs false
set_option linter.unusedVariables false

/-- the bytes of a word, one by one -/
def p4 (X : Rm) (a : Nat) (v : Int) : Nat → Rm
  | 0 => X
  | k + 1 => (p4 X a v k).putS (a + k) [(w4 v).getD k 0]
theorem put_n (X : Rm) (a : Nat) (L : List Int) : (X.putS a L).n = X.n := by unfold Rm.putS; split; exact wr_n _ _ _; rfl
theorem p4_n (X : Rm) (a : Nat) (v : Int) : ∀ k, (p4 X a v k).n = X.n
  | 0 => rfl
  | k + 1 => (put_n _ _ _).trans (p4_n X a v k)
theorem put1_b (X : Rm) (a : Nat) (x : Int) (h : a < X.n * 64) : (X.putS a [x]).b = upd X.b a x := by
  unfold Rm.putS; rw [if_pos (show a + [x].length ≤ _ from h)]; rfl
theorem put1_tu (X : Rm) (a : Nat) (x : Int) (h : a < X.n * 64) : (X.putS a [x]).tu = upd X.tu (a / 64) true := by
  unfold Rm.putS; rw [if_pos (show a + [x].length ≤ _ from h)]; rfl
theorem p4_b (X : Rm) (a : Nat) (v : Int) (h : a + 4 ≤ X.n * 64) : ∀ k, k ≤ 4 → ∀ j, (p4 X a v k).b j = if a ≤ j ∧ j < a + k then (w4 v).getD (j - a) 0 else X.b j
  | 0, _, j => by rw [if_neg (by omega)]; rfl
  | k + 1, hk, j => by
    show ((p4 X a v k).putS (a + k) [(w4 v).getD k 0]).b j = _
    rw [put1_b _ _ _ (by rw [p4_n]; omega)]
    by_cases e : j = a + k
    · subst e; rw [upd_same, if_pos (by omega), show a + k - a = k by omega]
    · rw [upd_other _ _ _ _ e, p4_b X a v h k (by omega)]
      by_cases h2 : a ≤ j ∧ j < a + k
      · rw [if_pos h2, if_pos (by omega)]
      · rw [if_neg h2, if_neg (by omega)]
theorem p4_tu (X : Rm) (a : Nat) (v : Int) (h : a + 4 ≤ X.n * 64) (q : Nat) : ∀ k, k ≤ 4 → ((p4 X a v k).tu q = true ↔ X.tu q = true ∨ ∃ t, t < k ∧ (a + t) / 64 = q)
  | 0, _ => by simp [p4]
  | k + 1, hk => by
    show ((p4 X a v k).putS (a + k) [(w4 v).getD k 0]).tu q = true ↔ _
    rw [put1_tu _ _ _ (by rw [p4_n]; omega)]
    by_cases e : q = (a + k) / 64
    · subst e; rw [upd_same]; exact ⟨fun _ => .inr ⟨k, by omega, rfl⟩, fun _ => rfl⟩
    · rw [upd_other _ _ _ _ e, p4_tu X a v h q k (by omega)]
      constructor
      · rintro (h1 | ⟨t, h1, h2⟩)
        · exact .inl h1
        · exact .inr ⟨t, by omega, h2⟩
      · rintro (h1 | ⟨t, h1, h2⟩)
        · exact .inl h1
        · refine .inr ⟨t, ?_, h2⟩
          by_cases et : t = k
          · subst et; exact absurd h2.symm e
          · omega
/-- a word at once, or byte by byte -/
theorem word_bytes (X : Rm) (a : Nat) (v : Int) (h : a + 4 ≤ X.n * 64) (hv : 0 ≤ v ∧ v < 4294967296) :
    (X.putS a (w4 v)).b = (p4 X a v 4).b ∧ (X.putS a (w4 v)).tu = (p4 X a v 4).tu ∧ (X.putS a (w4 v)).wdV a = v ∧ (X.putS a (w4 v)).n = X.n := by
  have e : X.putS a (w4 v) = X.wr a (w4 v) := if_pos h
  have hn : (X.wr a (w4 v)).n = X.n := wr_n _ _ _
  have hl : (w4 v).length = 4 := rfl
  rw [e]
  refine ⟨?_, ?_, ?_, hn⟩
  · funext j; rw [wr_b, p4_b X a v h 4 (Nat.le_refl _), hl]
  · funext q
    have h1 := wr_tu X a (w4 v) q
    have h2 := p4_tu X a v h q 4 (Nat.le_refl _)
    rw [hl] at h1
    rw [Bool.eq_iff_iff]
    exact h1.trans h2.symm
  · unfold Rm.wdV
    rw [hn, if_pos h]
    unfold Rm.wd
    rw [wr_b, wr_b, wr_b, wr_b, hl, if_pos (by omega), if_pos (by omega), if_pos (by omega), if_pos (by omega)]
    rw [show a - a = 0 by omega, show a + 1 - a = 1 by omega, show a + 2 - a = 2 by omega, show a + 3 - a = 3 by omega]
    simp [w4]
    omega
end Go.Proofs.Ytgohmchodgoceaa

/-
  BITS that an entry has: what a user may, what the system may; how many slots are not empty. It imports nothing of the program.
-/
import Derived.Test.YtblfplhiamcpoaaTb
namespace Go.Proofs.Ytblfplhiamcpoaa
open Go.RowKit
set_option linter.unusedSimpArgs false
set_option linter.unusedVariables false

theorem and_self_iff (b m : Nat) : b &&& m = m ↔ ∀ i, m.testBit i = true → b.testBit i = true := by
  constructor
  · intro h i hi
    have : (b &&& m).testBit i = true := by rw [h]; exact hi
    rw [Nat.testBit_and, Bool.and_eq_true] at this
    exact this.1
  · intro h
    apply Nat.eq_of_testBit_eq
    intro i
    rw [Nat.testBit_and]
    cases hm : m.testBit i with
    | false => simp
    | true => rw [h i hm]; rfl
theorem and_or_iff (b x y : Nat) : b &&& (x ||| y) = x ||| y ↔ (b &&& x = x ∧ b &&& y = y) := by
  rw [and_self_iff, and_self_iff, and_self_iff]
  constructor
  · intro h
    exact ⟨fun i hi => h i (by rw [Nat.testBit_or, hi]; rfl), fun i hi => h i (by rw [Nat.testBit_or, hi]; simp)⟩
  · rintro ⟨h1, h2⟩ i hi
    rw [Nat.testBit_or, Bool.or_eq_true] at hi
    rcases hi with hi | hi
    · exact h1 i hi
    · exact h2 i hi
theorem and_16 (b : Nat) : b &&& 16 = 16 ↔ b &&& 16 ≠ 0 := by
  have e : (16 : Nat) = 2 ^ 4 := by decide
  constructor
  · intro h; rw [h]; decide
  · intro h
    rw [and_self_iff]
    intro i hi
    rw [e, Nat.testBit_two_pow] at hi
    obtain rfl : 4 = i := by simpa using hi
    by_cases c : b.testBit 4 = true
    · exact c
    · refine absurd ?_ h
      apply Nat.eq_of_testBit_eq
      intro j
      rw [Nat.testBit_and, e, Nat.testBit_two_pow, Nat.zero_testBit]
      by_cases hj : 4 = j
      · subst hj; simp [c]
      · simp [hj]
/-- the bits of a Load, of an Exec, of a Store, and User -/
theorem bits_user (b : Int) (h0 : 0 ≤ b) (h1 : b < 4294967296) (N : Int) (hN : N = 8 ∨ N = 2 ∨ N = 68) :
    (bits .and .u32 b (N + 16) == N + 16) = ((bits .and .u32 b N == N) && (bits .and .u32 b 16 != 0)) := by
  obtain ⟨n, rfl⟩ := Int.eq_ofNat_of_zero_le h0
  have hn : n < 4294967296 := by omega
  have e16 : bits .and .u32 (n : Int) 16 = ((n &&& 16 : Nat) : Int) := u32_and_nat n 16 hn (by omega)
  have key : ∀ m : Nat, m < 4294967280 → (m ||| 16 = m + 16) → (bits .and .u32 (n : Int) ((m : Int) + 16) == (m : Int) + 16) = ((bits .and .u32 (n : Int) (m : Int) == (m : Int)) && (bits .and .u32 (n : Int) 16 != 0)) := by
    intro m hm hor
    have e1 : bits .and .u32 (n : Int) ((m : Int) + 16) = ((n &&& (m + 16) : Nat) : Int) := u32_and_nat n (m + 16) hn (by omega)
    have e2 : bits .and .u32 (n : Int) (m : Int) = ((n &&& m : Nat) : Int) := u32_and_nat n m hn (by omega)
    rw [e1, e2, e16, ← hor]
    have h := and_or_iff n m 16
    rw [and_16] at h
    have c1 : ((((n &&& (m ||| 16) : Nat) : Int)) == (m : Int) + 16) = decide (n &&& (m ||| 16) = m ||| 16) := by
      rw [Bool.eq_iff_iff, beq_iff_eq, decide_eq_true_iff]; omega
    have c2 : ((((n &&& m : Nat) : Int)) == (m : Int)) = decide (n &&& m = m) := by
      rw [Bool.eq_iff_iff, beq_iff_eq, decide_eq_true_iff]; omega
    have c3 : ((((n &&& 16 : Nat) : Int)) != 0) = decide (n &&& 16 ≠ 0) := by
      rw [Bool.eq_iff_iff, bne_iff_ne, decide_eq_true_iff]; omega
    rw [c1, c2, c3, Bool.eq_iff_iff, Bool.and_eq_true, decide_eq_true_iff, decide_eq_true_iff, decide_eq_true_iff]
    exact h
  rcases hN with rfl | rfl | rfl
  · exact key 8 (by omega) (by decide)
  · exact key 2 (by omega) (by decide)
  · exact key 68 (by omega) (by decide)
theorem nd_true (k : Int) (h : k = 1 ∨ k = 2 ∨ k = 3) : nd k true = nd0 k ∧ nd k false = nd0 k + 16 ∧ (nd0 k = 8 ∨ nd0 k = 2 ∨ nd0 k = 68) := by
  rcases h with rfl | rfl | rfl <;> decide
/-- what an entry of the page lets through -/
theorem fB_super {e : En} {V k : Int} (hv : e.v = true) (hn : e.n = V / 64) (h : k = 1 ∨ k = 2 ∨ k = 3) : fB e V k true = (bits .and .u32 e.b (nd0 k) == nd0 k) := by
  obtain ⟨h1, h2, h3⟩ := nd_true k h
  unfold fB
  rw [h1, hv, decide_eq_true hn, decide_eq_true (show nd0 k ≠ 0 by omega), Bool.eq_iff_iff]; simp
theorem fB_user {e : En} {V k : Int} (hv : e.v = true) (hn : e.n = V / 64) (hb : 0 ≤ e.b ∧ e.b < 4294967296) (h : k = 1 ∨ k = 2 ∨ k = 3) :
    fB e V k false = ((bits .and .u32 e.b (nd0 k) == nd0 k) && (bits .and .u32 e.b 16 != 0)) := by
  obtain ⟨h1, h2, h3⟩ := nd_true k h
  rw [← bits_user e.b hb.1 hb.2 (nd0 k) h3]
  unfold fB
  rw [h2, hv, decide_eq_true hn, decide_eq_true (show nd0 k + 16 ≠ 0 by omega), Bool.eq_iff_iff]; simp

theorem cntE_zero (n : Nat) : cntE (fun _ => en0) n = 0 := by
  induction n with
  | zero => rfl
  | succ n ih => unfold cntE; rw [ih]; rfl
/-- how many are not empty if one is set: by what it was before, and what it is -/
theorem cntE_upd (S : Nat → En) (i : Nat) (e : En) : ∀ n, (i < n → cntE (upd S i e) n + (if (S i).v = true then 1 else 0) = cntE S n + (if e.v = true then 1 else 0)) ∧ (n ≤ i → cntE (upd S i e) n = cntE S n)
  | 0 => ⟨fun h => absurd h (by omega), fun _ => rfl⟩
  | n + 1 => by
    obtain ⟨h1, h2⟩ := cntE_upd S i e n
    refine ⟨fun h => ?_, fun h => ?_⟩
    · by_cases hi : i = n
      · subst hi
        have := h2 (Nat.le_refl _)
        unfold cntE
        rw [this, upd_same]; omega
      · have := h1 (by omega)
        unfold cntE
        rw [upd_other _ _ _ _ (show n ≠ i from fun x => hi x.symm)]; omega
    · have := h2 (by omega)
      unfold cntE
      rw [this, upd_other _ _ _ _ (show n ≠ i by omega)]
theorem cntE_set (S : Nat → En) (i : Nat) (hi : i < 16) (e : En) (hv : e.v = true) : 1 ≤ cntE (upd S i e) 16 := by
  have := (cntE_upd S i e 16).1 hi
  rw [if_pos hv] at this
  split at this
  · have h2 : 1 ≤ cntE S 16 := by
      rename_i h
      have : ∀ n, i < n → 1 ≤ cntE S n := by
        intro n
        induction n with
        | zero => intro h; omega
        | succ n ih =>
          intro hn
          unfold cntE
          by_cases hin : i = n
          · subst hin; rw [if_pos h]; omega
          · have := ih (by omega); omega
      exact this 16 hi
    omega
  · omega
end Go.Proofs.Ytblfplhiamcpoaa

/-
  AND, OR AND XOR OF WORDS FIT TOGETHER; SHIFTS BY STEPS. It imports nothing of the program.
-/
import Derived.Test.YtckggiclplgaiaaNum
namespace Go.Proofs.Ytckggiclplgaiaa
open Go.RowKit
set_option linter.unusedSimpArgs false

theorem and_or_nat : ∀ (n m : Nat), (n &&& m) + (n ||| m) = n + m := by
  intro n
  induction n using Nat.strongRecOn with
  | _ n ih =>
    intro m
    by_cases h : n = 0
    · subst h; simp
    · have i := ih (n / 2) (by omega) (m / 2)
      have d1 : (n &&& m) / 2 = n / 2 &&& m / 2 := Nat.and_div_two
      have d2 : (n ||| m) / 2 = n / 2 ||| m / 2 := Nat.or_div_two
      have m1 : (n &&& m) % 2 = 1 ↔ n % 2 = 1 ∧ m % 2 = 1 := Nat.and_mod_two_eq_one
      have m2 : (n ||| m) % 2 = 1 ↔ n % 2 = 1 ∨ m % 2 = 1 := Nat.or_mod_two_eq_one
      rw [← d1, ← d2] at i
      omega
theorem xor_and_nat : ∀ (n m : Nat), (n ^^^ m) + (n &&& m) = (n ||| m) := by
  intro n
  induction n using Nat.strongRecOn with
  | _ n ih =>
    intro m
    by_cases h : n = 0
    · subst h; simp
    · have i := ih (n / 2) (by omega) (m / 2)
      have d1 : (n &&& m) / 2 = n / 2 &&& m / 2 := Nat.and_div_two
      have d2 : (n ||| m) / 2 = n / 2 ||| m / 2 := Nat.or_div_two
      have d3 : (n ^^^ m) / 2 = n / 2 ^^^ m / 2 := Nat.xor_div_two
      have m1 : (n &&& m) % 2 = 1 ↔ n % 2 = 1 ∧ m % 2 = 1 := Nat.and_mod_two_eq_one
      have m2 : (n ||| m) % 2 = 1 ↔ n % 2 = 1 ∨ m % 2 = 1 := Nat.or_mod_two_eq_one
      have m3 : (n ^^^ m) % 2 = 1 ↔ ¬ (n % 2 = 1 ↔ m % 2 = 1) := Nat.xor_mod_two_eq_one
      rw [← d1, ← d2, ← d3] at i
      by_cases a1 : n % 2 = 1 <;> by_cases a2 : m % 2 = 1 <;> simp only [a1, a2, true_and, true_or, or_true, and_true, false_and, and_false, or_false, false_or, iff_true, iff_false, not_true, not_false_iff] at m1 m2 m3 <;> omega
theorem bits_and_or (a b : Int) (a0 : 0 ≤ a) (a1 : a < 4294967296) (b0 : 0 ≤ b) (b1 : b < 4294967296) :
    bits .and .u32 a b + bits .or .u32 a b = a + b := by
  obtain ⟨n, rfl⟩ := Int.eq_ofNat_of_zero_le a0
  obtain ⟨m, rfl⟩ := Int.eq_ofNat_of_zero_le b0
  rw [u32_and_nat n m (by omega) (by omega), u32_or_nat n m (by omega) (by omega)]
  have := and_or_nat n m; omega
theorem bits_xor_and (a b : Int) (a0 : 0 ≤ a) (a1 : a < 4294967296) (b0 : 0 ≤ b) (b1 : b < 4294967296) :
    bits .xor .u32 a b + bits .and .u32 a b = bits .or .u32 a b := by
  obtain ⟨n, rfl⟩ := Int.eq_ofNat_of_zero_le a0
  obtain ⟨m, rfl⟩ := Int.eq_ofNat_of_zero_le b0
  rw [u32_and_nat n m (by omega) (by omega), u32_or_nat n m (by omega) (by omega), u32_xor_nat n m (by omega) (by omega)]
  have := xor_and_nat n m; omega
/-- moved up by two steps it is moved by their sum -/
theorem pow_split (x y : Int) (x0 : 0 ≤ x) (y0 : 0 ≤ y) : (2 : Int) ^ (x + y).toNat = 2 ^ x.toNat * 2 ^ y.toNat := by
  have e : (x + y).toNat = x.toNat + y.toNat := by omega
  rw [e, Int.pow_add]
theorem pow_ge (n : Nat) (h : 32 ≤ n) : ∃ k : Int, (2 : Int) ^ n = 4294967296 * k := by
  refine ⟨2 ^ (n - 32), ?_⟩
  have e : n = 32 + (n - 32) := by omega
  rw [e, Int.pow_add]; simp
theorem shl_two (a x y : Int) (x0 : 0 ≤ x) (y0 : 0 ≤ y) : shlV (shlV a x) y = shlV a (x + y) := by
  have hp := pow_split x y x0 y0
  unfold shlV
  by_cases hx : 32 ≤ x
  · rw [if_pos hx, if_pos (show 32 ≤ x + y by omega)]
    split
    · rfl
    · simp
  · rw [if_neg hx]
    by_cases hy : 32 ≤ y
    · rw [if_pos hy, if_pos (show 32 ≤ x + y by omega)]
    · rw [if_neg hy]
      have e : a * 2 ^ x.toNat % 4294967296 * 2 ^ y.toNat % 4294967296 = a * 2 ^ (x + y).toNat % 4294967296 := by
        rw [hp, Int.mul_emod, Int.emod_emod, ← Int.mul_emod, Int.mul_assoc]
      rw [e]
      split
      · rename_i hs
        obtain ⟨k, hk⟩ := pow_ge (x + y).toNat (by omega)
        rw [hk, ← Int.mul_assoc, Int.mul_comm a, Int.mul_assoc]; simp
      · rfl
theorem shr_two (a x y : Int) (a0 : 0 ≤ a) (a1 : a < 4294967296) (x0 : 0 ≤ x) (y0 : 0 ≤ y) : shrV (shrV a x) y = shrV a (x + y) := by
  have hp := pow_split x y x0 y0
  unfold shrV
  by_cases hx : 32 ≤ x
  · rw [if_pos hx, if_pos (show 32 ≤ x + y by omega)]
    split
    · rfl
    · simp
  · rw [if_neg hx]
    by_cases hy : 32 ≤ y
    · rw [if_pos hy, if_pos (show 32 ≤ x + y by omega)]
    · rw [if_neg hy]
      have e : a / 2 ^ x.toNat / 2 ^ y.toNat = a / 2 ^ (x + y).toNat := by
        rw [hp, Int.ediv_ediv_of_nonneg (Int.le_of_lt (Int.pow_pos (by omega)))]
      rw [e]
      split
      · rename_i hs
        obtain ⟨k, hk⟩ := pow_ge (x + y).toNat (by omega)
        have hpos : (0 : Int) < 2 ^ (x + y).toNat := Int.pow_pos (by omega)
        rw [hk] at hpos ⊢
        exact Int.ediv_eq_zero_of_lt a0 (by omega)
      · rfl
/-- what is moved up is what is multiplied -/
theorem mul_shl (a x : Int) (x0 : 0 ≤ x) (x1 : x < 32) : a * (2 ^ x.toNat % 4294967296) % 4294967296 = shlV a x := by
  unfold shlV; rw [if_neg (by omega), Int.mul_emod, Int.emod_emod, ← Int.mul_emod]
end Go.Proofs.Ytckggiclplgaiaa

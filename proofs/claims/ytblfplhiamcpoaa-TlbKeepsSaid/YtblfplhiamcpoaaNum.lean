/-
  WORDS OF 32 BITS AND THEIR FLAGS, AS NUMBERS: what arith's operations come to. It imports nothing of the program.
-/
import Derived.WalkKit
namespace Go.Proofs.Ytblfplhiamcpoaa
open Go.RowKit

/-- Zero and Negative of a result. -/
def wfl (r : Int) : Int := if r = 0 then 1 else if 2147483648 ≤ r then 2 else 0
/-- the top bit -/
def hi (r : Int) : Bool := decide (2147483648 ≤ r)
def ovA (a b : Int) : Bool := (hi a == hi b) && (hi ((a + b) % 4294967296) != hi a)
def ovS (a b : Int) : Bool := (hi a != hi b) && (hi ((a - b) % 4294967296) != hi a)
def addFl (a b : Int) : Int := wfl ((a + b) % 4294967296) + (if 4294967296 ≤ a + b then 4 else 0) + (if ovA a b = true then 8 else 0)
def subFl (a b : Int) : Int := wfl ((a - b) % 4294967296) + (if a < b then 4 else 0) + (if ovS a b = true then 8 else 0)

theorem wfl_zero (r : Int) (h : r = 0) : wfl r = 1 := by simp [wfl, h]
theorem wfl_hi (r : Int) (h : 2147483648 ≤ r) : wfl r = 2 := by unfold wfl; rw [if_neg (by omega), if_pos h]
theorem wfl_lo (r : Int) (h0 : 0 < r) (h : r < 2147483648) : wfl r = 0 := by unfold wfl; rw [if_neg (by omega), if_neg (by omega)]
theorem wfl_bd (r : Int) : 0 ≤ wfl r ∧ wfl r ≤ 2 := by
  unfold wfl; split
  · omega
  · split <;> omega
theorem wfl_cases (r : Int) : wfl r = 0 ∨ wfl r = 1 ∨ wfl r = 2 := by
  unfold wfl; split
  · simp
  · split <;> simp
theorem addFl_bd (a b : Int) : 0 ≤ addFl a b ∧ addFl a b ≤ 15 := by
  have := wfl_bd ((a + b) % 4294967296); unfold addFl; split <;> split <;> omega
theorem subFl_bd (a b : Int) : 0 ≤ subFl a b ∧ subFl a b ≤ 15 := by
  have := wfl_bd ((a - b) % 4294967296); unfold subFl; split <;> split <;> omega

theorem tb31 (n : Nat) (h : n < 4294967296) : n.testBit 31 = decide (2147483648 ≤ n) := by
  rw [Nat.testBit_eq_decide_div_mod_eq]
  rw [decide_eq_decide]; omega
theorem and_top (n : Nat) : (n &&& 2147483648 = 0) ↔ n.testBit 31 = false := by
  have e : (2147483648 : Nat) = 2 ^ 31 := by decide
  rw [e]
  constructor
  · intro h
    have h1 : (n &&& 2 ^ 31).testBit 31 = false := by rw [h]; simp
    rw [Nat.testBit_and, Nat.testBit_two_pow_self] at h1; simpa using h1
  · intro h
    apply Nat.eq_of_testBit_eq
    intro i
    rw [Nat.testBit_and, Nat.testBit_two_pow, Nat.zero_testBit]
    by_cases c : 31 = i
    · subst c; simp [h]
    · simp [c]
theorem bits_top (a : Int) (h0 : 0 ≤ a) (h : a < 4294967296) : (bits .and .u32 a 2147483648 != 0) = hi a := by
  obtain ⟨n, rfl⟩ := Int.eq_ofNat_of_zero_le h0
  have hn : n < 4294967296 := by omega
  have e := u32_and_nat n 2147483648 hn (by omega)
  have e1 := and_top n
  rw [tb31 n hn] at e1
  have e2 : bits .and .u32 (n : Int) 2147483648 = ((n &&& 2147483648 : Nat) : Int) := e
  rw [e2]; unfold hi
  by_cases c : 2147483648 ≤ n
  · have : ¬ (n &&& 2147483648 = 0) := by rw [e1]; simp [c]
    have c' : (2147483648 : Int) ≤ (n : Int) := by omega
    simp [c']; omega
  · have : (n &&& 2147483648 = 0) := by rw [e1]; simp [c]
    have c' : ¬ (2147483648 : Int) ≤ (n : Int) := by omega
    simp [c', this]
theorem hi_cast (n : Nat) : hi (n : Int) = decide (2147483648 ≤ n) := by unfold hi; rw [decide_eq_decide]; omega
theorem bits_xor_nat (a b : Int) (a0 : 0 ≤ a) (a1 : a < 4294967296) (b0 : 0 ≤ b) (b1 : b < 4294967296) :
    ∃ n : Nat, n < 4294967296 ∧ bits .xor .u32 a b = (n : Int) ∧ decide (2147483648 ≤ n) = (hi a != hi b) := by
  obtain ⟨n, rfl⟩ := Int.eq_ofNat_of_zero_le a0
  obtain ⟨m, rfl⟩ := Int.eq_ofNat_of_zero_le b0
  have hx : n ^^^ m < 2 ^ 32 := Nat.xor_lt_two_pow (by omega) (by omega)
  refine ⟨n ^^^ m, hx, u32_xor_nat n m (by omega) (by omega), ?_⟩
  rw [← tb31 _ hx, Nat.testBit_xor, tb31 n (by omega), tb31 m (by omega), hi_cast, hi_cast]
theorem bits_ov (a b c d : Int) (a0 : 0 ≤ a) (a1 : a < 4294967296) (b0 : 0 ≤ b) (b1 : b < 4294967296) (c0 : 0 ≤ c) (c1 : c < 4294967296) (d0 : 0 ≤ d) (d1 : d < 4294967296) :
    (bits .and .u32 (bits .and .u32 (bits .xor .u32 a b) (bits .xor .u32 c d)) 2147483648 != 0) = ((hi a != hi b) && (hi c != hi d)) := by
  obtain ⟨n, hn, e1, e2⟩ := bits_xor_nat a b a0 a1 b0 b1
  obtain ⟨m, hm, e3, e4⟩ := bits_xor_nat c d c0 c1 d0 d1
  have hx : n &&& m < 2 ^ 32 := Nat.and_lt_two_pow _ (by omega)
  rw [e1, e3, u32_and_nat n m hn hm, bits_top _ (by omega) (by omega), hi_cast, ← tb31 _ hx, Nat.testBit_and, tb31 n hn, tb31 m hm, e2, e4]
theorem bits_or4 (F : Int) (h : F = 0 ∨ F = 1 ∨ F = 2) : bits .or .u32 F 4 = F + 4 := by
  rcases h with rfl | rfl | rfl <;> decide
theorem bits_or8 (F : Int) (h : F = 0 ∨ F = 1 ∨ F = 2 ∨ F = 4 ∨ F = 5 ∨ F = 6) : bits .or .u32 F 8 = F + 8 := by
  rcases h with rfl | rfl | rfl | rfl | rfl | rfl <;> decide

/-! ### arith.Do -/
def shlV (a b : Int) : Int := if 32 ≤ b then 0 else a * 2 ^ b.toNat % 4294967296
def shrV (a b : Int) : Int := if 32 ≤ b then 0 else a / 2 ^ b.toNat
theorem shl_eq (a b : Int) : a * 2 ^ min b.toNat 32 % 4294967296 = shlV a b := by
  unfold shlV; split
  · have e : min b.toNat 32 = 32 := by omega
    rw [e]; show a * 4294967296 % 4294967296 = 0; omega
  · have e : min b.toNat 32 = b.toNat := by omega
    rw [e]
theorem shr_eq (a b : Int) (a0 : 0 ≤ a) (a1 : a < 4294967296) : a / 2 ^ min b.toNat 32 = shrV a b := by
  unfold shrV; split
  · have e : min b.toNat 32 = 32 := by omega
    rw [e]; show a / 4294967296 = 0; omega
  · have e : min b.toNat 32 = b.toNat := by omega
    rw [e]
/-- the result of an operation -/
def doV (op a b : Int) : Int :=
  if op = 16 then (a + b) % 4294967296 else if op = 17 then (a - b) % 4294967296 else if op = 18 then bits .and .u32 a b
  else if op = 19 then bits .or .u32 a b else if op = 20 then bits .xor .u32 a b
  else if op = 21 then shlV a b else if op = 22 then shrV a b
  else if op = 23 then a * b % 4294967296 else if op = 24 then (if b = 0 then 0 else a / b) else 0
/-- whether it can be performed -/
def doK (op b : Int) : Bool := decide (16 ≤ op ∧ op ≤ 25) && !(decide (op = 24) && decide (b = 0))
/-- its flags -/
def doF (op a b : Int) : Int :=
  if op = 16 then addFl a b else if op = 17 ∨ op = 25 then subFl a b
  else if doK op b = true then wfl (doV op a b) else 0

theorem u32_of_nat (op : BinOp) (h : op = .and ∨ op = .or ∨ op = .xor) (a b : Int) (a0 : 0 ≤ a) (a1 : a < 4294967296) (b0 : 0 ≤ b) (b1 : b < 4294967296) :
    0 ≤ bits op .u32 a b ∧ bits op .u32 a b < 4294967296 := by
  obtain ⟨n, rfl⟩ := Int.eq_ofNat_of_zero_le a0
  obtain ⟨m, rfl⟩ := Int.eq_ofNat_of_zero_le b0
  rcases h with rfl | rfl | rfl
  · rw [u32_and_nat n m (by omega) (by omega)]
    have hx : n &&& m < 2 ^ 32 := Nat.and_lt_two_pow _ (by omega)
    omega
  · rw [u32_or_nat n m (by omega) (by omega)]
    have hx : n ||| m < 2 ^ 32 := Nat.or_lt_two_pow (by omega) (by omega)
    omega
  · rw [u32_xor_nat n m (by omega) (by omega)]
    have hx : n ^^^ m < 2 ^ 32 := Nat.xor_lt_two_pow (by omega) (by omega)
    omega
theorem shl_bd (a b : Int) : 0 ≤ shlV a b ∧ shlV a b < 4294967296 := by
  unfold shlV; split <;> omega
theorem shr_bd (a b : Int) (a0 : 0 ≤ a) (a1 : a < 4294967296) : 0 ≤ shrV a b ∧ shrV a b < 4294967296 := by
  unfold shrV; split
  · omega
  · have h : (0 : Int) < 2 ^ b.toNat := Int.pow_pos (by omega)
    refine ⟨Int.ediv_nonneg a0 (by omega), ?_⟩
    have := Int.ediv_le_self (2 ^ b.toNat) a0
    omega
theorem quo_bd (a b : Int) (a0 : 0 ≤ a) (a1 : a < 4294967296) (b0 : 0 < b) : 0 ≤ a / b ∧ a / b < 4294967296 := by
  refine ⟨Int.ediv_nonneg a0 (by omega), ?_⟩
  have := Int.ediv_le_self b a0
  omega
theorem doV_bd (op a b : Int) (a0 : 0 ≤ a) (a1 : a < 4294967296) (b0 : 0 ≤ b) (b1 : b < 4294967296) : 0 ≤ doV op a b ∧ doV op a b < 4294967296 := by
  unfold doV
  split
  · omega
  split
  · omega
  split
  · exact u32_of_nat .and (by simp) a b a0 a1 b0 b1
  split
  · exact u32_of_nat .or (by simp) a b a0 a1 b0 b1
  split
  · exact u32_of_nat .xor (by simp) a b a0 a1 b0 b1
  split
  · exact shl_bd a b
  split
  · exact shr_bd a b a0 a1
  split
  · omega
  split
  · split
    · omega
    · exact quo_bd a b a0 a1 (by omega)
  · omega
theorem doF_bd (op a b : Int) : 0 ≤ doF op a b ∧ doF op a b ≤ 15 := by
  have h1 := addFl_bd a b
  have h2 := subFl_bd a b
  have h3 := wfl_bd (doV op a b)
  unfold doF
  split
  · omega
  split
  · omega
  split <;> omega
/-! ### arith.Holds, arith.Sign -/
def hoV (op f : Int) : Bool :=
  if op = 33 then bits .and .u32 f 1 != 0 else if op = 34 then bits .and .u32 f 1 == 0 else if op = 35 then bits .and .u32 f 4 != 0
  else if op = 36 then bits .and .u32 f 2 != 0 else if op = 37 then bits .and .u32 f 8 != 0 else false
def hoK (op : Int) : Bool := decide (33 ≤ op ∧ op ≤ 37)
def sgnV (b : Int) : Int := if 128 ≤ b % 256 then b % 256 + 4294967040 else b % 256
theorem sgnV_bd (b : Int) : 0 ≤ sgnV b ∧ sgnV b < 4294967296 := by
  unfold sgnV; split <;> omega
theorem sgn_wrap (b : Int) : IntKind.i8.wrap b % 4294967296 = sgnV b := by
  simp only [IntKind.wrap, IntKind.bits, IntKind.signed, sgnV]
  by_cases h : 128 ≤ b % 256
  · simp [h]; omega
  · simp [h]; omega
theorem ret_u32 {a b : Int} (h : a = b) : Ending.returned (.int .u32 a) = .returned (.int .u32 b) := by rw [h]

/-! ### the document's own: raw, Do -/
def crA (a b : Int) : Int := (if 4294967296 ≤ a + b then 4 else 0) + (if ovA a b = true then 8 else 0)
def crS (a b : Int) : Int := (if a < b then 4 else 0) + (if ovS a b = true then 8 else 0)
def rawV (op a b : Int) : Int := if op = 25 then (a - b) % 4294967296 else doV op a b
def rawF (op a b : Int) : Int := if op = 16 then crA a b else if op = 17 ∨ op = 25 then crS a b else 0
theorem hi_div (a : Int) (a0 : 0 ≤ a) (a1 : a < 4294967296) : hi a = (a / 2147483648 == 1) := by
  unfold hi; rw [Bool.eq_iff_iff]; simp; omega
theorem top_cases (a : Int) (a0 : 0 ≤ a) (a1 : a < 4294967296) : a / 2147483648 = 0 ∨ a / 2147483648 = 1 := by omega
theorem rawF_cases (op a b : Int) : rawF op a b = 0 ∨ rawF op a b = 4 ∨ rawF op a b = 8 ∨ rawF op a b = 12 := by
  unfold rawF crA crS
  split
  · split <;> split <;> simp
  split
  · split <;> split <;> simp
  · simp
theorem bits_or1 (F : Int) (h : F = 0 ∨ F = 4 ∨ F = 8 ∨ F = 12) : bits .or .u32 F 1 = F + 1 := by
  rcases h with rfl | rfl | rfl | rfl <;> decide
theorem bits_or2 (F : Int) (h : F = 0 ∨ F = 4 ∨ F = 8 ∨ F = 12) : bits .or .u32 F 2 = F + 2 := by
  rcases h with rfl | rfl | rfl | rfl <;> decide
theorem rawV_bd (op a b : Int) (a0 : 0 ≤ a) (a1 : a < 4294967296) (b0 : 0 ≤ b) (b1 : b < 4294967296) : 0 ≤ rawV op a b ∧ rawV op a b < 4294967296 := by
  unfold rawV; split
  · omega
  · exact doV_bd op a b a0 a1 b0 b1
/-- Do's flags are raw's, and those of the result -/
theorem doF_raw (op a b : Int) (h : doK op b = true) : doF op a b = wfl (rawV op a b) + rawF op a b := by
  unfold doF rawF rawV
  by_cases h16 : op = 16
  · subst h16; simp [addFl, crA, doV]; omega
  by_cases h17 : op = 17
  · subst h17; simp [subFl, crS, doV]; omega
  by_cases h25 : op = 25
  · subst h25; simp [subFl, crS]; omega
  · simp [h16, h17, h25, h]
theorem doV_raw (op a b : Int) : doV op a b = if op = 25 then 0 else rawV op a b := by
  unfold rawV
  by_cases h25 : op = 25
  · subst h25; simp [doV]
  · simp [h25]
theorem do_not (op a b : Int) (h : doK op b = false) : doV op a b = 0 ∧ doF op a b = 0 := by
  have h' : (op < 16 ∨ 25 < op) ∨ (op = 24 ∧ b = 0) := by
    unfold doK at h; simp at h; omega
  unfold doF doV
  rcases h' with h' | ⟨h1, h2⟩
  · rw [h]; simp only [show op ≠ 16 by omega, show op ≠ 17 by omega, show op ≠ 18 by omega, show op ≠ 19 by omega, show op ≠ 20 by omega, show op ≠ 21 by omega, show op ≠ 22 by omega, show op ≠ 23 by omega, show op ≠ 24 by omega, show op ≠ 25 by omega, if_false, or_self, Bool.false_eq_true, and_self]
  · subst h1; subst h2; simp [doK]

/-! ### what fits its kind -/
theorem u32_of_wf {n : Int} (h : (Lit.int .u32 n).wf = true) : 0 ≤ n ∧ n < 4294967296 := by
  simp [Lit.wf, IntKind.min, IntKind.max, IntKind.bits, IntKind.signed] at h; omega
theorem i64_of_wf {n : Int} (h : (Lit.int .i64 n).wf = true) : -9223372036854775808 ≤ n ∧ n ≤ 9223372036854775807 := by
  simp [Lit.wf, IntKind.min, IntKind.max, IntKind.bits, IntKind.signed] at h; omega

/-! ### the bits of flags -/
theorem fl_bits (z c v : Int) (hz : z = 0 ∨ z = 1 ∨ z = 2) (hc : c = 0 ∨ c = 4) (hv : v = 0 ∨ v = 8) :
    (bits .and .u32 (z + c + v) 1 != 0) = (z == 1) ∧ (bits .and .u32 (z + c + v) 1 == 0) = !(z == 1) ∧ (bits .and .u32 (z + c + v) 4 != 0) = (c == 4)
      ∧ (bits .and .u32 (z + c + v) 2 != 0) = (z == 2) ∧ (bits .and .u32 (z + c + v) 8 != 0) = (v == 8) ∧ (bits .and .u32 (z + c + v) 12 == 0) = (c == 0 && v == 0) := by
  rcases hz with rfl | rfl | rfl <;> rcases hc with rfl | rfl <;> rcases hv with rfl | rfl <;> decide
theorem wfl_is1 (r : Int) : (wfl r == 1) = (r == 0) := by
  unfold wfl; by_cases h : r = 0
  · simp [h]
  · by_cases h2 : 2147483648 ≤ r <;> simp [h, h2]
theorem wfl_is2 (r : Int) : (wfl r == 2) = hi r := by
  unfold wfl hi; by_cases h : r = 0
  · simp [h]
  · by_cases h2 : 2147483648 ≤ r <;> simp [h, h2]
theorem ite_is (n : Int) (hn : n ≠ 0) (p : Prop) [Decidable p] : ((if p then n else 0) == n) = decide p := by
  by_cases h : p
  · simp [h]
  · simp [h]; omega
theorem ite_or (n : Int) (p : Prop) [Decidable p] : (if p then n else 0) = 0 ∨ (if p then n else 0) = n := by
  by_cases h : p <;> simp [h]
/-- a word read with a sign -/
def sg (a : Int) : Int := if 2147483648 ≤ a then a - 4294967296 else a
theorem sg_wrap (a : Int) (a0 : 0 ≤ a) (a1 : a < 4294967296) : IntKind.i32.wrap a = sg a := by
  simp only [IntKind.wrap, IntKind.bits, IntKind.signed, sg]
  have e : a % 4294967296 = a := by omega
  by_cases h : 2147483648 ≤ a
  · simp [e, h]
  · simp [e, h]
theorem sg_wrap32 (a : Int) (a0 : 0 ≤ a) (a1 : a < 4294967296) : wrap32 a = sg a := by
  unfold wrap32 sg; split <;> omega
theorem sub_less (a b : Int) (a0 : 0 ≤ a) (a1 : a < 4294967296) (b0 : 0 ≤ b) (b1 : b < 4294967296) :
    (hi ((a - b) % 4294967296) != ovS a b) = decide (sg a < sg b) := by
  unfold ovS hi sg
  by_cases ha : 2147483648 ≤ a <;> by_cases hb : 2147483648 ≤ b <;> by_cases hd : 2147483648 ≤ (a - b) % 4294967296 <;> simp [ha, hb, hd] <;> omega
/-- what Overflow tells: the exact sum, the exact difference is no signed word -/
theorem add_over (a b : Int) (a0 : 0 ≤ a) (a1 : a < 4294967296) (b0 : 0 ≤ b) (b1 : b < 4294967296) :
    ovA a b = decide (sg a + sg b ≠ sg ((a + b) % 4294967296)) := by
  unfold ovA hi sg
  by_cases ha : 2147483648 ≤ a <;> by_cases hb : 2147483648 ≤ b <;> by_cases hd : 2147483648 ≤ (a + b) % 4294967296 <;> simp [ha, hb, hd] <;> omega
theorem sub_over (a b : Int) (a0 : 0 ≤ a) (a1 : a < 4294967296) (b0 : 0 ≤ b) (b1 : b < 4294967296) :
    ovS a b = decide (sg a - sg b ≠ sg ((a - b) % 4294967296)) := by
  unfold ovS hi sg
  by_cases ha : 2147483648 ≤ a <;> by_cases hb : 2147483648 ≤ b <;> by_cases hd : 2147483648 ≤ (a - b) % 4294967296 <;> simp [ha, hb, hd] <;> omega
/-- the flags of a difference, asked by a jump -/
theorem sub_holds (a b : Int) (a0 : 0 ≤ a) (a1 : a < 4294967296) (b0 : 0 ≤ b) (b1 : b < 4294967296) :
    hoV 33 (subFl a b) = (a == b) ∧ hoV 34 (subFl a b) = !(a == b) ∧ hoV 35 (subFl a b) = decide (a < b) ∧ hoV 36 (subFl a b) = hi ((a - b) % 4294967296) ∧ hoV 37 (subFl a b) = ovS a b := by
  obtain ⟨h1, h2, h4, hn, h8, _⟩ := fl_bits (wfl ((a - b) % 4294967296)) (if a < b then 4 else 0) (if ovS a b = true then 8 else 0) (wfl_cases _) (ite_or 4 _) (ite_or 8 _)
  have hz : ((a - b) % 4294967296 == 0) = (a == b) := by rw [Bool.eq_iff_iff]; simp; omega
  rw [wfl_is1, hz] at h1 h2
  rw [ite_is 4 (by omega)] at h4
  rw [wfl_is2] at hn
  rw [ite_is 8 (by omega)] at h8
  have h8' : decide (ovS a b = true) = ovS a b := by simp
  rw [h8'] at h8
  simp only [subFl, hoV]
  exact ⟨h1, h2, h4, hn, h8⟩

theorem hi_shr (r : Int) (r0 : 0 ≤ r) (r1 : r < 4294967296) : hi r = (r / 2147483648 == 1) := hi_div r r0 r1
/-- the flags of a result, z + c + v: what each bit tells -/
theorem flag_facts (V c v : Int) (V0 : 0 ≤ V) (V1 : V < 4294967296) (hc : c = 0 ∨ c = 4) (hv : v = 0 ∨ v = 8) :
    (bits .and .u32 (wfl V + c + v) 1 != 0) = (V == 0) ∧ (bits .and .u32 (wfl V + c + v) 2 != 0) = (V / 2147483648 == 1) ∧ (bits .and .u32 (wfl V + c + v) 4 != 0) = (c == 4)
      ∧ (bits .and .u32 (wfl V + c + v) 8 != 0) = (v == 8) ∧ (bits .and .u32 (wfl V + c + v) 12 == 0) = (c == 0 && v == 0) ∧ 0 ≤ wfl V + c + v ∧ wfl V + c + v ≤ 15 := by
  obtain ⟨h1, _, h4, h2, h8, h12⟩ := fl_bits (wfl V) c v (wfl_cases V) hc hv
  have hb := wfl_bd V
  rw [wfl_is1] at h1
  rw [wfl_is2, hi_shr V V0 V1] at h2
  exact ⟨h1, h2, h4, h8, h12, by omega, by omega⟩
theorem wrap32_bd (a : Int) : -2147483648 ≤ wrap32 a ∧ wrap32 a < 2147483648 := by unfold wrap32; omega
end Go.Proofs.Ytblfplhiamcpoaa

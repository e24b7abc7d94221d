/-
  THE TABLES OF A GUEST AS NUMBERS: bits of an entry, the places of entries, what a walk tells and leaves.
-/
import Derived.Test.YtoejpdhcibbgdaaRr
import Derived.Test.YtoejpdhcibbgdaaNum
namespace Go.Proofs.Ytoejpdhcibbgdaa
open Go.RowKit
set_option linter.unusedSimpArgs false
set_option linter.unusedVariables false

/-! ### bits -/
theorem and1 (n : Nat) (h : n < 4294967296) : bits .and .u32 (n : Int) 1 = ((n % 2 : Nat) : Int) := by
  have e := u32_and_nat n 1 h (by omega)
  rw [Nat.and_one_is_mod] at e
  exact e
theorem or_div (n c : Nat) (hc : c < 256) : (n ||| c) / 256 = n / 256 := by
  have e : (256 : Nat) = 2 ^ 8 := by decide
  rw [e, Nat.or_div_two_pow, Nat.div_eq_of_lt (show c < 2 ^ 8 from hc), Nat.or_zero]
theorem or_or (n : Nat) : (n ||| 32) ||| 64 = n ||| 96 := by rw [Nat.or_assoc]; rfl
theorem or_lt (n c : Nat) (h : n < 4294967296) (hc : c < 256) : n ||| c < 4294967296 := Nat.or_lt_two_pow (n := 32) h (by omega)
theorem and_keep (n c m : Nat) (h : n &&& m = m) : (n ||| c) &&& m = m := by
  apply Nat.eq_of_testBit_eq
  intro i
  have := congrArg (fun x => x.testBit i) h
  simp only [Nat.testBit_and, Nat.testBit_or] at this ⊢
  cases hm : m.testBit i <;> cases hn : n.testBit i <;> simp [hm, hn] at this ⊢
theorem and_part (n a b : Nat) (h : n &&& (a ||| b) = a ||| b) : n &&& a = a := by
  apply Nat.eq_of_testBit_eq
  intro i
  have := congrArg (fun x => x.testBit i) h
  simp only [Nat.testBit_and, Nat.testBit_or] at this ⊢
  cases ha : a.testBit i <;> cases hn : n.testBit i <;> simp [ha, hn] at this ⊢
theorem or_self2 (n c : Nat) : (n ||| c) ||| c = n ||| c := by rw [Nat.or_assoc, Nat.or_self]
theorem or_and (n c : Nat) : (n ||| c) &&& c = c := by
  apply Nat.eq_of_testBit_eq
  intro i
  simp only [Nat.testBit_and, Nat.testBit_or]
  cases c.testBit i <;> simp

/-! ### Fault, Bits -/
def ftV (k : Int) : Int := if k = 1 then 7 else if k = 2 then 8 else if k = 3 then 9 else 0
def isK (k : Int) : Bool := decide (1 ≤ k ∧ k ≤ 3)
def bt0 (k : Int) : Nat := if k = 1 then 9 else if k = 2 then 3 else if k = 3 then 5 else 1
def btN (k : Int) (s : Bool) : Nat := if s = true then bt0 k else bt0 k + 16
def mkN (k : Int) : Nat := if k = 3 then 96 else 32
theorem bt0_cases (k : Int) : bt0 k = 9 ∨ bt0 k = 3 ∨ bt0 k = 5 ∨ bt0 k = 1 := by
  unfold bt0
  repeat' split
  all_goals simp
theorem bt_lt (k : Int) (s : Bool) : btN k s < 256 := by
  have := bt0_cases k
  unfold btN; split <;> omega
theorem mk_lt (k : Int) : mkN k < 256 := by unfold mkN; split <;> omega
theorem ft_no {k : Int} (h : isK k = false) : ftV k = 0 := by
  have h : ¬ (1 ≤ k ∧ k ≤ 3) := by simpa [isK] using h
  unfold ftV; rw [if_neg (by omega), if_neg (by omega), if_neg (by omega)]
theorem ft_yes {k : Int} (h : isK k = true) : ftV k = k + 6 := by
  have h : 1 ≤ k ∧ k ≤ 3 := by simpa [isK] using h
  rcases (show k = 1 ∨ k = 2 ∨ k = 3 by omega) with rfl | rfl | rfl <;> rfl
theorem bt_user (k : Int) : btN k false = btN k true ||| 16 := by
  have := bt0_cases k
  unfold btN
  simp only [if_true, Bool.false_eq_true, if_false]
  rcases this with h | h | h | h <;> rw [h] <;> rfl

/-! ### the places -/
def l1 (r v : Nat) : Nat := r / 64 * 64 + v / 1024 % 16 * 4
def l2 (f v : Nat) : Nat := f / 256 * 64 + v / 64 % 16 * 4
/-- the word at a, a natural number -/
def Rm.wn (X : Rm) (a : Nat) : Nat := (X.wd a).toNat
def Rm.lkB (X : Rm) (r v : Nat) : Bool := decide (v < 16384) && (decide (l1 r v + 4 ≤ X.n * 64) && (decide (X.wn (l1 r v) % 2 = 1) && decide (l2 (X.wn (l1 r v)) v + 4 ≤ X.n * 64)))
def Rm.lkA (X : Rm) (r v : Nat) : Nat := if X.lkB r v = true then l2 (X.wn (l1 r v)) v else 0
def Rm.lkE (X : Rm) (r v : Nat) : Nat := if X.lkB r v = true then X.wn (l2 (X.wn (l1 r v)) v) else 0
/-- the words are words -/
structure Rm.Ok (X : Rm) : Prop where
  n1 : 1 ≤ X.n ∧ X.n ≤ 64
  bd : ∀ a, a < X.n * 64 → 0 ≤ X.b a ∧ X.b a < 256
theorem IsM.ok {w : World} {p : Bl} {X : Rm} (h : IsM w p X) : X.Ok := ⟨h.n1, h.bd⟩
section
variable {X : Rm}
theorem wn_eq (h : X.Ok) (a : Nat) (ha : a + 4 ≤ X.n * 64) : X.wd a = ((X.wn a : Nat) : Int) ∧ X.wn a < 4294967296 := by
  have h0 := h.bd a (by omega)
  have h1 := h.bd (a + 1) (by omega)
  have h2 := h.bd (a + 2) (by omega)
  have h3 := h.bd (a + 3) (by omega)
  have e : 0 ≤ X.wd a ∧ X.wd a < 4294967296 := by unfold Rm.wd; omega
  unfold Rm.wn
  constructor <;> omega
/-- what a walk that comes through has met -/
theorem lk_yes {r v : Nat} (h : X.lkB r v = true) : v < 16384 ∧ l1 r v + 4 ≤ X.n * 64 ∧ X.wn (l1 r v) % 2 = 1 ∧ l2 (X.wn (l1 r v)) v + 4 ≤ X.n * 64 ∧ X.lkA r v = l2 (X.wn (l1 r v)) v ∧ X.lkE r v = X.wn (X.lkA r v) := by
  have e1 : X.lkA r v = l2 (X.wn (l1 r v)) v := by unfold Rm.lkA; rw [if_pos h]
  have e2 : X.lkE r v = X.wn (X.lkA r v) := by rw [e1]; unfold Rm.lkE; rw [if_pos h]
  simp only [Rm.lkB, Bool.and_eq_true, decide_eq_true_eq] at h
  exact ⟨h.1, h.2.1, h.2.2.1, h.2.2.2, e1, e2⟩
theorem lk_no {r v : Nat} (h : X.lkB r v = false) : X.lkA r v = 0 ∧ X.lkE r v = 0 := by
  unfold Rm.lkA Rm.lkE; rw [h]; exact ⟨rfl, rfl⟩
theorem lkE_lt (h : X.Ok) (r v : Nat) : X.lkE r v < 4294967296 := by
  cases hb : X.lkB r v
  · rw [(lk_no hb).2]; omega
  · obtain ⟨_, _, _, h4, e1, e2⟩ := lk_yes hb
    rw [e2]; exact (wn_eq h _ (by rw [e1]; exact h4)).2
theorem lkA_le (h : X.Ok) (r v : Nat) : X.lkA r v + 4 ≤ X.n * 64 := by
  have := h.n1
  cases hb : X.lkB r v
  · rw [(lk_no hb).1]; omega
  · obtain ⟨_, _, _, h4, e1, e2⟩ := lk_yes hb
    rw [e1]; exact h4
theorem l2_4 (f v : Nat) : l2 f v % 4 = 0 := by unfold l2; omega
end
/-! ### Do -/
def Rm.doB (X : Rm) (r v : Nat) (k : Int) (s : Bool) : Bool := isK k && (X.lkB r v && decide (X.lkE r v &&& btN k s = btN k s))
/-- the leaf entry, behind the walk -/
def Rm.us (X : Rm) (r v : Nat) (k : Int) : Nat := X.lkE r v ||| mkN k
def Rm.doS (X : Rm) (r v : Nat) (k : Int) (s : Bool) : Rm := if X.doB r v k s = true ∧ X.us r v k ≠ X.lkE r v then X.wr (X.lkA r v) (w4 (X.us r v k : Nat)) else X
def enV (D : Bool) (v p b : Nat) : Value := .agg #[.bool D, .int .u32 v, .int .u32 p, .int .u32 b]
def trV (c a : Int) : Value := .agg #[.int .i64 c, .int .u32 a]
def Rm.doE (X : Rm) (r v : Nat) (k : Int) (s : Bool) : Value :=
  enV (X.doB r v k s) (if X.doB r v k s = true then v / 64 else 0) (if X.doB r v k s = true then X.us r v k / 256 else 0) (if X.doB r v k s = true then X.us r v k &&& 94 else 0)
def trC (D : Bool) (k : Int) : Int := if D = true then 0 else if isK k = true then ftV k else 10
def trA (D : Bool) (v : Nat) : Int := if D = true then 0 else (v : Int)
def Rm.doT (X : Rm) (r v : Nat) (k : Int) (s : Bool) : Value := trV (trC (X.doB r v k s) k) (trA (X.doB r v k s) v)
theorem doS_n (X : Rm) (r v : Nat) (k : Int) (s : Bool) : (X.doS r v k s).n = X.n := by
  unfold Rm.doS; split
  · exact wr_n _ _ _
  · rfl
end Go.Proofs.Ytoejpdhcibbgdaa

/-
  gcode.All, gcode.Join: what they come to, as numbers and lists; and A CONTRACT EACH.
-/
import Derived.Test.YtmgjojgjonighaaDoorGc7
namespace Go.Proofs.YtmgjojgjonighaaDoor
open Go.RowKit
set_option linter.unusedSimpArgs false
set_option linter.unusedVariables false

/-- an instruction that is right, its number a word -/
def Ok2 (p : Int × Int) : Prop := okV p.1 p.2 = true ∧ 0 ≤ p.2 ∧ p.2 < 4294967296
/-- instructions' bytes, one behind the other -/
def encs (L : List (Int × Int)) : List UInt8 := L.flatMap fun p => ecV p.1 p.2
theorem encs_append (a b : List (Int × Int)) : encs (a ++ b) = encs a ++ encs b := by simp [encs]
theorem encs_cons (p : Int × Int) (b : List (Int × Int)) : encs (p :: b) = ecV p.1 p.2 ++ encs b := by simp [encs]
theorem encs_nil : encs [] = [] := rfl
/-- an instruction as two cells -/
def iv (p : Int × Int) : List Value := [.int .i64 p.1, .int .u32 p.2]
def ivs (L : List (Int × Int)) : List Value := L.flatMap iv
theorem ivs_append (a b : List (Int × Int)) : ivs (a ++ b) = ivs a ++ ivs b := by simp [ivs]
theorem ivs_at (L : List (Int × Int)) (k : Nat) (h : k < L.length) : (ivs L)[2 * k]? = some (.int .i64 L[k].1) ∧ (ivs L)[2 * k + 1]? = some (.int .u32 L[k].2) := by
  induction L generalizing k with
  | nil => simp at h
  | cons p L ih =>
    cases k with
    | zero => simp [ivs, iv]
    | succ k =>
      have := ih k (by simpa using h)
      have e : ivs (p :: L) = .int .i64 p.1 :: .int .u32 p.2 :: ivs L := by simp [ivs, iv]
      rw [e, show 2 * (k + 1) = 2 * k + 1 + 1 by omega]
      simpa using this
theorem ok_sz {op n : Int} (h : okV op n = true) : szV op ≠ 0 := by
  intro e; simp [okV, e] at h
theorem nth_cons (b : UInt8) (l : List UInt8) : nth (b :: l) 0 = (b.toNat : Int) := by simp [nth]
theorem byt_nth (l : List UInt8) (j : Nat) : byt (nth l j) = l.getD j 0 := by
  unfold byt nth
  simp
theorem take_of_len {l : List UInt8} : ∀ {k : Nat}, k ≤ l.length → l.take k = (List.range k).map fun j => l.getD j 0 := by
  intro k hk
  apply List.ext_getElem
  · simp [hk]
  · intro i h1 h2
    simp at h1
    simp [List.getD, List.getElem?_eq_getElem (show i < l.length by omega)]
/-- what is read is written as it stood -/
theorem dc_ec (l : List UInt8) (h : dcE l = 0) : okV (dcO l) (dcN l) = true ∧ 0 ≤ dcN l ∧ dcN l < 4294967296 ∧ ecV (dcO l) (dcN l) = l.take (dcS l).toNat ∧ (dcS l).toNat ≤ l.length ∧ 0 < dcS l := by
  have n0 := nth_bd l 0
  have n1 := nth_bd l 1
  have n2 := nth_bd l 2
  have n3 := nth_bd l 3
  have n4 := nth_bd l 4
  have h' := h
  unfold dcE at h'
  split at h'
  · omega
  split at h'
  · omega
  split at h'
  · omega
  rename_i hne hz hlt
  have eO : dcO l = nth l 0 := by simp [dcO, h]
  have eS : dcS l = szV (nth l 0) := by simp [dcS, h]
  rw [eO, eS]
  have hs := szV_cases (nth l 0)
  rcases hs with hs | hs | hs | hs
  · exact absurd hs hz
  · have eN : dcN l = 0 := by simp [dcN, h, hs]
    rw [eN]
    refine ⟨by simp [okV, hs], by omega, by omega, ?_, by omega, by omega⟩
    rw [hs, take_of_len (by omega)]
    simp [ecV, hs, byt_nth, List.range, List.range.loop]
  · have eN : dcN l = nth l 1 := by simp [dcN, h, hs]
    rw [eN]
    refine ⟨by simp [okV, hs]; omega, by omega, by omega, ?_, by omega, by omega⟩
    rw [hs, take_of_len (by omega)]
    simp [ecV, hs, byt_nth, List.range, List.range.loop]
  · have eN : dcN l = nth l 1 + 256 * nth l 2 + 65536 * nth l 3 + 16777216 * nth l 4 := by simp [dcN, h, hs]
    refine ⟨by simp [okV, hs], by omega, by omega, ?_, by omega, by omega⟩
    rw [hs, take_of_len (by omega)]
    have b1 : byt (dcN l) = l.getD 1 0 := by
      rw [← byt_nth l 1]; apply UInt8.toNat_inj.1
      have a1 := byt_val (dcN l) (by omega)
      have a2 := byt_val (nth l 1) (by omega)
      omega
    have b2 : byt (dcN l / 256) = l.getD 2 0 := by
      rw [← byt_nth l 2]; apply UInt8.toNat_inj.1
      have a1 := byt_val (dcN l / 256) (by omega)
      have a2 := byt_val (nth l 2) (by omega)
      omega
    have b3 : byt (dcN l / 65536) = l.getD 3 0 := by
      rw [← byt_nth l 3]; apply UInt8.toNat_inj.1
      have a1 := byt_val (dcN l / 65536) (by omega)
      have a2 := byt_val (nth l 3) (by omega)
      omega
    have b4 : byt (dcN l / 16777216) = l.getD 4 0 := by
      rw [← byt_nth l 4]; apply UInt8.toNat_inj.1
      have a1 := byt_val (dcN l / 16777216) (by omega)
      have a2 := byt_val (nth l 4) (by omega)
      omega
    simp [ecV, hs, b1, b2, b3, b4, byt_nth, List.range, List.range.loop]
/-- what is written is read, whatever stands behind it -/
theorem ec_dc (op n : Int) (h : okV op n = true) (n0 : 0 ≤ n) (n1 : n < 4294967296) (r : List UInt8) : dcE (ecV op n ++ r) = 0 ∧ dcO (ecV op n ++ r) = op ∧ dcN (ecV op n ++ r) = n ∧ dcS (ecV op n ++ r) = szV op := by
  obtain ⟨o0, o1⟩ := szV_bd op (ok_sz h)
  have e0 : nth (ecV op n ++ r) 0 = op := by
    have : ∃ t, ecV op n ++ r = byt op :: t := by
      unfold ecV; split
      · exact ⟨_, rfl⟩
      · split
        · exact ⟨_, rfl⟩
        · exact ⟨_, rfl⟩
    obtain ⟨t, ht⟩ := this
    rw [ht, nth_cons, byt_of op o0 (by omega)]
  have hl : ((ecV op n ++ r).length : Int) = szV op + r.length := by rw [List.length_append]; have := ecV_len op n (ok_sz h); omega
  have hne : ecV op n ++ r ≠ [] := by
    intro e; rw [e] at hl; have := ecV_len op n (ok_sz h); have := szV_cases op; have := ok_sz h; simp at hl; omega
  have hE : dcE (ecV op n ++ r) = 0 := by
    unfold dcE; rw [if_neg hne, e0, if_neg (ok_sz h), if_neg (by omega)]
  refine ⟨hE, by simp [dcO, hE, e0], ?_, by simp [dcS, hE, e0]⟩
  unfold dcN
  rw [if_pos hE, e0]
  unfold okV at h
  simp at h
  rcases szV_cases op with hs | hs | hs | hs
  · exact absurd hs (by simp [hs] at h)
  · simp [hs] at h ⊢; omega
  · simp [hs] at h ⊢
    simp [ecV, hs, nth, byt_of n n0 (by omega)]
  · simp [hs]
    simp [ecV, hs, nth, byt_val n n0, byt_val (n / 256) (by omega), byt_val (n / 65536) (by omega), byt_of (n / 16777216) (by omega) (by omega)]
    omega
/-- bytes have one reading -/
theorem all_one : ∀ (L M : List (Int × Int)) (r t : List UInt8), (∀ p ∈ L, Ok2 p) → (∀ p ∈ M, Ok2 p) → encs L ++ r = encs M ++ t → dcE r ≠ 0 → dcE t ≠ 0 → L = M ∧ r = t
  | [], [], r, t, _, _, h, _, _ => ⟨rfl, by simpa [encs] using h⟩
  | [], q :: M, r, t, _, hM, h, hr, _ => by
    exfalso; apply hr
    obtain ⟨a, b, c⟩ := hM q (by simp)
    rw [encs_nil, List.nil_append, encs_cons, List.append_assoc] at h
    rw [h]; exact (ec_dc q.1 q.2 a b c _).1
  | p :: L, [], r, t, hL, _, h, _, ht => by
    exfalso; apply ht
    obtain ⟨a, b, c⟩ := hL p (by simp)
    rw [encs_nil, List.nil_append, encs_cons, List.append_assoc] at h
    rw [← h]; exact (ec_dc p.1 p.2 a b c _).1
  | p :: L, q :: M, r, t, hL, hM, h, hr, ht => by
    obtain ⟨a, b, c⟩ := hL p (by simp)
    obtain ⟨a', b', c'⟩ := hM q (by simp)
    rw [encs_cons, encs_cons, List.append_assoc, List.append_assoc] at h
    obtain ⟨_, x1, x2, _⟩ := ec_dc p.1 p.2 a b c (encs L ++ r)
    obtain ⟨_, y1, y2, _⟩ := ec_dc q.1 q.2 a' b' c' (encs M ++ t)
    rw [h] at x1 x2
    have e1 : p.1 = q.1 := x1.symm.trans y1
    have e2 : p.2 = q.2 := x2.symm.trans y2
    have e : p = q := Prod.ext e1 e2
    subst e
    have := List.append_cancel_left h
    obtain ⟨z1, z2⟩ := all_one L M r t (fun x hx => hL x (by simp [hx])) (fun x hx => hM x (by simp [hx])) this hr ht
    exact ⟨by rw [z1], z2⟩
theorem encs_len (L : List (Int × Int)) (h : ∀ p ∈ L, Ok2 p) : L.length ≤ (encs L).length ∧ (encs L).length ≤ 5 * L.length := by
  induction L with
  | nil => simp [encs]
  | cons p L ih =>
    have := ih fun q hq => h q (by simp [hq])
    have h1 := ecV_len p.1 p.2 (ok_sz (h p (by simp)).1)
    have h2 := szV_cases p.1
    have h3 := ok_sz (h p (by simp)).1
    rw [encs_cons, List.length_append, List.length_cons]
    omega
end Go.Proofs.YtmgjojgjonighaaDoor

/-
  TEXTS OF UNLIKE INSTRUCTIONS ARE UNLIKE: plain lists and numbers.
-/
import Derived.Test.YtmgjojgjonighaaDoorGc5
import Derived.Test.YtmgjojgjonighaaDoorGc8
namespace Go.Proofs.YtmgjojgjonighaaDoor
open Go.RowKit
set_option linter.unusedSimpArgs false
set_option linter.unusedVariables false

def valD (l : List UInt8) : Nat := l.foldl (fun a c => a * 10 + (c.toNat - 48)) 0
theorem valD_dec (u : Nat) : valD (Lib.decDigits u) = u := by
  induction u using Nat.strongRecOn with
  | _ u ih =>
    rw [Lib.decDigits]
    split
    · rename_i h
      simp [valD]
      omega
    · rename_i h
      have h1 := ih (u / 10) (by omega)
      have : (UInt8.ofNat (48 + u % 10)).toNat = 48 + u % 10 := by simp; omega
      unfold valD at h1 ⊢
      rw [List.foldl_append, h1]
      simp [this]
      omega
theorem dec_inj {a b : Nat} (h : Lib.decDigits a = Lib.decDigits b) : a = b := by
  rw [← valD_dec a, ← valD_dec b, h]
theorem nm_ok : ∀ a : Fin 70, szV (a.val : Int) ≠ 0 → ((nmV (a.val : Int)).all fun c => c != 32) = true ∧ nmV (a.val : Int) ≠ [63] ∧ nmV (a.val : Int) ≠ [] := by decide +kernel
theorem nm_inj : ∀ a b : Fin 70, szV (a.val : Int) ≠ 0 → szV (b.val : Int) ≠ 0 → nmV (a.val : Int) = nmV (b.val : Int) → a = b := by decide +kernel
theorem fin_of (op : Int) (h : szV op ≠ 0) : ∃ a : Fin 70, (a.val : Int) = op := by
  obtain ⟨o0, o1⟩ := szV_bd op h
  exact ⟨⟨op.toNat, by omega⟩, by simp; omega⟩
/-- cut at the first blank -/
def upto (l : List UInt8) : List UInt8 := l.takeWhile (· != 32)
theorem upto_name (l r : List UInt8) (h : (l.all fun c => c != 32) = true) : upto (l ++ 32 :: r) = l ∧ upto l = l := by
  unfold upto
  induction l with
  | nil => simp
  | cons a l ih =>
    simp only [List.all_cons, Bool.and_eq_true] at h
    obtain ⟨h1, h2⟩ := ih h.2
    constructor
    · rw [List.cons_append, List.takeWhile_cons, if_pos h.1, h1]
    · rw [List.takeWhile_cons, if_pos h.1, h2]
theorem tx_upto (op n : Int) (h : okV op n = true) : upto (txV op n) = nmV op := by
  obtain ⟨a, rfl⟩ := fin_of op (ok_sz h)
  have := (nm_ok a (ok_sz h)).1
  unfold txV
  rw [if_pos h]
  split
  · exact (upto_name _ [] this).2
  · exact (upto_name _ _ this).1
theorem tx_inj {p q : Int × Int} (hp : Ok2 p) (hq : Ok2 q) (h : txV p.1 p.2 = txV q.1 q.2) : p = q := by
  have h1 := tx_upto p.1 p.2 hp.1
  have h2 := tx_upto q.1 q.2 hq.1
  rw [h, h2] at h1
  obtain ⟨a, ha⟩ := fin_of p.1 (ok_sz hp.1)
  obtain ⟨b, hb⟩ := fin_of q.1 (ok_sz hq.1)
  have sa := ok_sz hp.1
  have sb := ok_sz hq.1
  rw [← ha] at sa
  rw [← hb] at sb
  rw [← ha, ← hb] at h1
  have e := nm_inj b a sb sa h1
  have e1 : p.1 = q.1 := by rw [← ha, ← hb, e]
  refine Prod.ext e1 ?_
  have o1 := hp.1
  have o2 := hq.1
  unfold txV at h
  rw [if_pos o1, if_pos o2, e1] at h
  by_cases hs : szV q.1 = 1
  · unfold okV at o1 o2
    rw [e1] at o1
    simp [hs] at o1 o2
    rw [o1, o2]
  · rw [if_neg hs, if_neg hs] at h
    have := dec_inj (List.cons.inj (List.append_cancel_left h)).2
    have := hp.2.1
    have := hq.2.1
    omega
theorem tx_not {p : Int × Int} (hp : Ok2 p) : txV p.1 p.2 ≠ [63] := by
  intro h
  have h1 := tx_upto p.1 p.2 hp.1
  rw [h] at h1
  obtain ⟨a, ha⟩ := fin_of p.1 (ok_sz hp.1)
  have sa := ok_sz hp.1
  rw [← ha] at sa h1
  exact (nm_ok a sa).2.1 h1.symm
/-- what is the system's ends a block, and is not plain -/
theorem kinds_ok (op : Int) : (suV op = true → enV op = true) ∧ (plV op = true → suV op = false) := by
  unfold suV enV plV wiV
  simp
  omega
end Go.Proofs.YtmgjojgjonighaaDoor

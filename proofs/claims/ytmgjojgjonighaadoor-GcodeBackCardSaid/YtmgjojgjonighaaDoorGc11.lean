/-
  CODE THAT IS CUT OFF: plain lists and numbers.
-/
import Derived.Test.YtmgjojgjonighaaDoorGc8
namespace Go.Proofs.YtmgjojgjonighaaDoor
open Go.RowKit
set_option linter.unusedSimpArgs false
set_option linter.unusedVariables false

/-- how many bytes the first j instructions have -/
def eL (L : List (Int × Int)) (j : Nat) : Nat := (encs (L.take j)).length
theorem eL_zero (L : List (Int × Int)) : eL L 0 = 0 := by simp [eL, encs]
theorem eL_all (L : List (Int × Int)) : eL L L.length = (encs L).length := by simp [eL]
theorem ec_pos (op n : Int) (h : okV op n = true) : 0 < (ecV op n).length := by
  have := ecV_len op n (ok_sz h); have := szV_cases op; have := ok_sz h; omega
theorem eL_succ (L : List (Int × Int)) (j : Nat) (h : j < L.length) : eL L (j + 1) = eL L j + (ecV L[j].1 L[j].2).length := by
  unfold eL
  rw [List.take_succ_eq_append_getElem h, encs_append, List.length_append]; simp [encs]
theorem eL_snoc (L : List (Int × Int)) (p : Int × Int) (j : Nat) (h : j ≤ L.length) : eL (L ++ [p]) j = eL L j := by
  unfold eL; rw [List.take_append_of_le_length h]
theorem ec_cut (op n : Int) (h : okV op n = true) (m : Nat) (hm : m < (ecV op n).length) : dcE ((ecV op n).take m) = 10 := by
  obtain ⟨o0, o1⟩ := szV_bd op (ok_sz h)
  rcases Nat.eq_zero_or_pos m with h0 | h0
  · subst h0; simp [dcE]
  · obtain ⟨t, ht⟩ : ∃ t, ecV op n = byt op :: t := by
      unfold ecV; split
      · exact ⟨_, rfl⟩
      · split
        · exact ⟨_, rfl⟩
        · exact ⟨_, rfl⟩
    have hl := ecV_len op n (ok_sz h)
    have e0 : nth ((ecV op n).take m) 0 = op := by
      obtain ⟨k, rfl⟩ : ∃ k, m = k + 1 := ⟨m - 1, by omega⟩
      rw [ht, List.take_succ_cons, nth_cons, byt_of op o0 (by omega)]
    have hne : (ecV op n).take m ≠ [] := by
      intro e
      have e1 : ((ecV op n).take m).length = m := by rw [List.length_take]; omega
      rw [e] at e1; simp at e1; omega
    have hlt : (((ecV op n).take m).length : Int) < szV op := by
      have e1 : ((ecV op n).take m).length = m := by rw [List.length_take]; omega
      rw [e1]; omega
    unfold dcE
    rw [if_neg hne, e0, if_neg (ok_sz h), if_pos hlt]
theorem cut_all (L : List (Int × Int)) (hL : ∀ p ∈ L, Ok2 p) (kk W : Nat) (hk : kk ≤ (encs L).length) (hW : W ≤ L.length) (h1 : eL L W ≤ kk) (h2 : ∀ j, W < j → j ≤ L.length → kk < eL L j)
    (M : List (Int × Int)) (a : Nat) (hM : ∀ p ∈ M, Ok2 p) (ha : a ≤ ((encs L).take kk).length) (hE : encs M = ((encs L).take kk).take a) (hD : dcE (((encs L).take kk).drop a) ≠ 0) :
    M.length = W ∧ a = eL L W ∧ dcE (((encs L).take kk).drop a) = 10 := by
  have hsplit : encs L = encs (L.take W) ++ encs (L.drop W) := by rw [← encs_append, List.take_append_drop]
  have hlw : (encs (L.take W)).length = eL L W := rfl
  have hb : (encs L).take kk = encs (L.take W) ++ (encs (L.drop W)).take (kk - eL L W) := by
    rw [hsplit, List.take_append, List.take_of_length_le (by rw [hlw]; exact h1), hlw]
  have hT : dcE ((encs (L.drop W)).take (kk - eL L W)) = 10 := by
    by_cases hw : W < L.length
    · have hd : L.drop W = L[W] :: L.drop (W + 1) := List.drop_eq_getElem_cons hw
      have h3 := h2 (W + 1) (by omega) (by omega)
      rw [eL_succ L W hw] at h3
      rw [hd, encs_cons, List.take_append_of_le_length (by omega)]
      exact ec_cut _ _ (hL _ (List.getElem_mem hw)).1 _ (by omega)
    · have : L.drop W = [] := List.drop_eq_nil_of_le (by omega)
      rw [this]; simp [encs, dcE]
  have hcat : encs M ++ ((encs L).take kk).drop a = encs (L.take W) ++ (encs (L.drop W)).take (kk - eL L W) := by
    rw [hE, List.take_append_drop, hb]
  obtain ⟨e1, e2⟩ := all_one M (L.take W) _ _ hM (fun p hp => hL p (List.mem_of_mem_take hp)) hcat hD (by rw [hT]; omega)
  refine ⟨by rw [e1, List.length_take]; omega, ?_, by rw [e2, hT]⟩
  have := congrArg List.length hE
  rw [List.length_take, e1, hlw] at this
  omega
theorem eL_le (L : List (Int × Int)) (j : Nat) : eL L j ≤ (encs L).length := by
  have : encs L = encs (L.take j) ++ encs (L.drop j) := by rw [← encs_append, List.take_append_drop]
  unfold eL; rw [this, List.length_append]; omega
theorem eL_drop (L : List (Int × Int)) (j : Nat) : (encs L).drop (eL L j) = encs (L.drop j) := by
  have : encs L = encs (L.take j) ++ encs (L.drop j) := by rw [← encs_append, List.take_append_drop]
  rw [this]; unfold eL; rw [List.drop_left']; rfl
end Go.Proofs.YtmgjojgjonighaaDoor

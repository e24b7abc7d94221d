/-
  NOBODY HOLDS MORE THAN IT WAS PROMISED; each frame is one owner's, or free: about the pool's value alone.
-/
import Derived.Test.YtoejpdhcibbgdaaPv
namespace Go.Proofs.Ytoejpdhcibbgdaa
open Go.RowKit
set_option linter.unusedSimpArgs false
set_option linter.unusedVariables false

theorem isB_congr {S T : Po} {o : Int} {f : Nat} (hf : f < 256) (h : T.own f = S.own f) : T.isB o f = S.isB o f := by
  have h1 := isB_nat (S := S) (o := o) hf
  have h2 := isB_nat (S := T) (o := o) hf
  rw [h, ← h1] at h2
  cases a : T.isB o f <;> cases b : S.isB o f <;> simp [a, b] at h2 ⊢
/-- fewer frames are held -/
theorem held_mono {S T : Po} {o : Int} (h : ∀ f : Nat, f < 256 → T.isB o f = true → S.isB o f = true) : ∀ k, k ≤ 256 → (T.heldL o k).length ≤ (S.heldL o k).length
  | 0, _ => by simp [Po.heldL]
  | k + 1, hk => by
    have ih := held_mono h k (by omega)
    rw [heldL_succ, heldL_succ, List.length_append, List.length_append]
    cases a : T.isB o k
    · simp only [Bool.false_eq_true, if_false, List.length_nil]; omega
    · rw [h k (by omega) a]; simp only [if_true, List.length_singleton]; omega
/-- one frame more at most -/
theorem held_grow {S T : Po} {o : Int} (q : Nat) (h : ∀ f : Nat, f < 256 → f ≠ q → T.isB o f = true → S.isB o f = true) : ∀ k, k ≤ 256 → (T.heldL o k).length ≤ (S.heldL o k).length + (if q < k then 1 else 0)
  | 0, _ => by simp [Po.heldL]
  | k + 1, hk => by
    have ih := held_grow q h k (by omega)
    rw [heldL_succ, heldL_succ, List.length_append, List.length_append]
    by_cases e : k = q
    · subst e
      rw [if_neg (show ¬ k < k by omega)] at ih
      rw [if_pos (show k < k + 1 by omega)]
      have h1 : (if T.isB o k = true then [k] else []).length ≤ 1 := by split <;> simp
      omega
    · have h2 : (if T.isB o k = true then [k] else []).length ≤ (if S.isB o k = true then [k] else []).length := by
        cases a : T.isB o k
        · simp
        · rw [h k (by omega) e a]; simp
      by_cases hq : q < k
      · rw [if_pos hq] at ih; rw [if_pos (show q < k + 1 by omega)]; omega
      · rw [if_neg hq] at ih; rw [if_neg (show ¬ q < k + 1 by omega)]; omega
/-- nobody holds more than it was promised -/
def Po.Inv (S : Po) : Prop := ∀ o : Nat, o < 4 → ((S.heldL o 256).length : Int) ≤ pos (S.prom o)
theorem inv0 : po0.Inv := fun o ho => by
  have : ∀ k, k ≤ 256 → (po0.heldL o k).length = 0 := fun k => by
    induction k with
    | zero => simp [Po.heldL]
    | succ k ih =>
      intro hk
      rw [heldL_succ, List.length_append, ih (by omega)]
      cases a : po0.isB o k
      · rfl
      · have := ((isB_nat (S := po0) (o := (o : Int)) (show k < 256 by omega)).1 a).1
        simp [po0] at this
  rw [this 256 (by omega)]
  unfold pos; split <;> omega
theorem inv_prom {S : Po} (h : S.Inv) (o n : Int) : (S.promS o n).Inv := fun p hp => by
  unfold Po.promS
  split
  · rename_i hv
    rcases promV_cases S o n with ⟨h1, _⟩ | ⟨ho, h0, _, h2⟩
    · rw [h1] at hv; cases hv
    · rcases h2 with ⟨h1, _⟩ | ⟨hq, _⟩
      · rw [h1] at hv; cases hv
      · obtain ⟨k, rfl, hk⟩ := oB_true ho
        rw [Int.toNat_natCast] at hq ⊢
        have := h p hp
        show ((S.heldL p 256).length : Int) ≤ pos (upd S.prom k n p)
        by_cases e : p = k
        · subst e
          rw [upd_same]
          have e2 : pos (S.prom p) = 0 := by unfold pos; rw [if_neg (by simpa [neB] using hq)]
          have e3 : 0 ≤ pos n := by unfold pos; split <;> omega
          omega
        · rw [upd_other _ _ _ _ e]; exact this
  · exact h p hp
theorem inv_take {S : Po} (h : S.Inv) (o : Int) : (S.takeS o).Inv := fun p hp => by
  rcases take_cases S o with ⟨_, _, _, e⟩ | ⟨_, _, _, _, e⟩ | ⟨_, _, _, _, _, e⟩ | ⟨ho, hl, f, hf, _, _, e⟩
  · rw [e]; exact h p hp
  · rw [e]; exact h p hp
  · rw [e]; exact h p hp
  · rw [e]
    obtain ⟨k, rfl, hk⟩ := oB_true ho
    rw [Int.toNat_natCast] at hl
    obtain ⟨l1, l2, l3, _⟩ := lowF_some hf
    have hown : ∀ j, j ≠ f → (S.tk f (k : Int)).own j = S.own j := fun j hj => by simp [Po.tk, upd_other _ _ _ _ hj]
    show (((S.tk f (k : Int)).heldL p 256).length : Int) ≤ pos (S.prom p)
    by_cases e2 : p = k
    · subst e2
      have := held_grow (S := S) (T := S.tk f (p : Int)) (o := (p : Int)) f (fun j hj hjf ht => by rw [isB_congr hj (hown j hjf)] at ht; exact ht) 256 (by omega)
      rw [if_pos l2] at this
      omega
    · have := held_mono (S := S) (T := S.tk f (k : Int)) (o := (p : Int)) (fun j hj ht => by
        by_cases e3 : j = f
        · subst e3
          have h1 := ((isB_nat hj).1 ht).1
          simp [Po.tk] at h1; omega
        · rw [isB_congr hj (hown j e3)] at ht; exact ht) 256 (by omega)
      have := h p hp
      omega
theorem inv_rel {S : Po} (h : S.Inv) (L : List Nat) : (S.rel L).Inv := fun p hp => by
  rw [rel_prom]
  have := held_mono (S := S) (T := S.rel L) (o := (p : Int)) (fun j hj ht => by
    have h1 := (isB_nat hj).1 ht
    rw [rel_own] at h1
    split at h1
    · omega
    · exact (isB_nat hj).2 h1) 256 (by omega)
  have := h p hp
  omega
theorem inv_give {S : Po} (h : S.Inv) (o : Int) (L : List Int) : (S.giveS o L).Inv := by
  unfold Po.giveS
  split
  · exact inv_rel h _
  · exact h
theorem inv_put {S : Po} (h : S.Inv) (f a : Nat) (x : Int) : (S.put f a x).Inv := h
theorem inv_congr {S T : Po} (h : S.Inv) (h1 : T.own = S.own) (h2 : T.prom = S.prom) : T.Inv := fun p hp => by
  have := held_mono (S := S) (T := T) (o := (p : Int)) (fun j hj ht => by rw [isB_congr (S := S) (T := T) hj (congrFun h1 j)] at ht; exact ht) 256 (by omega)
  have := h p hp
  rw [h2]; omega
/-- what the first j owners hold, together, below k -/
def Po.tot (S : Po) (k : Nat) : Nat → Nat
  | 0 => 0
  | j + 1 => S.tot k j + (S.heldL j k).length
theorem tot4 (S : Po) (k : Nat) : S.tot k 4 = 0 + (S.heldL (0 : Nat) k).length + (S.heldL (1 : Nat) k).length + (S.heldL (2 : Nat) k).length + (S.heldL (3 : Nat) k).length := rfl
theorem tot_free {S : Po} (h : S.Good) : ∀ k, k ≤ 256 → S.tot k 4 + S.freeN k = k - 16
  | 0, _ => by rw [tot4]; simp [Po.freeN, Po.heldL]
  | k + 1, hk => by
    have ih := tot_free h k (by omega)
    have step : ∀ i : Nat, (S.heldL i (k + 1)).length = (S.heldL i k).length + (if S.own k = i then 1 else 0) := fun i => by
      rw [heldL_succ, List.length_append]
      have h2 := isB_nat (S := S) (o := (i : Int)) (show k < 256 by omega)
      have key : (if S.isB i k = true then [k] else []).length = if S.own k = i then 1 else 0 := by
        by_cases e : S.own k = i
        · rw [if_pos (h2.2 ⟨e, by omega⟩), if_pos e]; rfl
        · rw [if_neg (fun x => e (h2.1 x).1), if_neg e]; rfl
      rw [key]
    rw [tot4] at ih ⊢
    rw [step 0, step 1, step 2, step 3, freeN_succ]
    have hneb : neB (S.own k) = false ↔ S.own k < 0 := by simp [neB]
    have hf : (if 16 ≤ k ∧ neB (S.own k) = false then 1 else 0) = if 16 ≤ k ∧ S.own k < 0 then 1 else 0 := by
      by_cases hx : 16 ≤ k ∧ S.own k < 0
      · rw [if_pos hx, if_pos ⟨hx.1, hneb.2 hx.2⟩]
      · rw [if_neg hx, if_neg (fun x => hx ⟨x.1, hneb.1 x.2⟩)]
    rw [hf]
    have ho := h.own k
    clear step hneb hf
    generalize S.own k = x at *
    generalize S.freeN k = fr at *
    generalize (S.heldL ((0 : Nat) : Int) k).length = l0 at *
    generalize (S.heldL ((1 : Nat) : Int) k).length = l1 at *
    generalize (S.heldL ((2 : Nat) : Int) k).length = l2 at *
    generalize (S.heldL ((3 : Nat) : Int) k).length = l3 at *
    split <;> split <;> split <;> split <;> split <;> omega
theorem tot_le {S : Po} (h : S.Good) (j : Nat) (hj : j ≤ 4) : S.tot 256 j ≤ 240 := by
  have := tot_free h 256 (by omega)
  have mono : ∀ i, S.tot 256 i ≤ S.tot 256 (i + 1) := fun i => by simp [Po.tot]
  have m0 : S.tot 256 0 ≤ S.tot 256 1 := mono 0
  have m1 : S.tot 256 1 ≤ S.tot 256 2 := mono 1
  have m2 : S.tot 256 2 ≤ S.tot 256 3 := mono 2
  have m3 : S.tot 256 3 ≤ S.tot 256 4 := mono 3
  rcases (show j = 0 ∨ j = 1 ∨ j = 2 ∨ j = 3 ∨ j = 4 by omega) with rfl | rfl | rfl | rfl | rfl <;> omega
theorem heldL_nodup (S : Po) (o : Int) (k : Nat) : (S.heldL o k).Nodup := List.nodup_range.sublist List.filter_sublist
end Go.Proofs.Ytoejpdhcibbgdaa

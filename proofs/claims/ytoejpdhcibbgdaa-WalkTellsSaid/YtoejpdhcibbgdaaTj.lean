/-
  A TABLE AND ITS POOL, AS VALUES: the pages' frames are the owner's, and no others; how Map and Unmap keep that.
-/
import Derived.Test.YtoejpdhcibbgdaaTv
import Derived.Test.YtoejpdhcibbgdaaPo
namespace Go.Proofs.Ytoejpdhcibbgdaa
open Go.RowKit
set_option linter.unusedSimpArgs false
set_option linter.unusedVariables false

/-! ### counting -/
theorem cnt_congr {P Q : Nat → Bool} : ∀ N, (∀ j, j < N → Q j = P j) → ((List.range N).filter Q).length = ((List.range N).filter P).length
  | 0, _ => by simp
  | N + 1, h => by
    rw [List.range_succ, List.filter_append, List.filter_append, List.length_append, List.length_append, cnt_congr N fun j hj => h j (by omega)]
    have := h N (by omega)
    cases hp : P N <;> simp [hp] at this <;> simp [hp, this]
theorem cnt_set {P Q : Nat → Bool} (q : Nat) (hp : P q = false) (hq : Q q = true) : ∀ N, (∀ j, j < N → j ≠ q → Q j = P j) → ((List.range N).filter Q).length = ((List.range N).filter P).length + (if q < N then 1 else 0)
  | 0, _ => by simp
  | N + 1, h => by
    have ih := cnt_set q hp hq N fun j hj => h j (by omega)
    rw [List.range_succ, List.filter_append, List.filter_append, List.length_append, List.length_append, ih]
    by_cases e : N = q
    · subst e; simp [hp, hq]
    · have := h N (by omega) e
      have e2 : (q < N + 1) = (q < N) := by apply propext; omega
      cases hpn : P N <;> simp [hpn] at this <;> simp [hpn, this, e2] <;> omega
theorem freeN_eq (S : Po) (k : Nat) : S.freeN k = ((List.range k).filter fun f => decide (16 ≤ f) && !neB (S.own f)).length := rfl
/-! ### there is a frame for whom was promised more than it holds -/
theorem free_none {S : Po} (h : S.lowF = none) : S.freeN 256 = 0 := by
  rw [freeN_eq, List.length_eq_zero_iff, List.filter_eq_nil_iff]
  intro f hf
  have hf := List.mem_range.1 hf
  by_cases h16 : 16 ≤ f
  · rw [lowF_none h f h16 hf]; simp
  · simp [h16]
/-- nobody holds more than it was promised, and all promises together are no more than there is -/
structure Po.Ok (S : Po) : Prop where
  inv : S.Inv
  all : S.allP 4 ≤ 240
theorem low_of_room {S : Po} (hg : S.Good) (hk : S.Ok) (o : Nat) (ho : o < 4) (hl : ((S.heldL o 256).length : Int) < pos (S.prom o)) : ∃ f, S.lowF = some f := by
  cases hf : S.lowF with
  | some f => exact ⟨f, rfl⟩
  | none =>
    have h1 := tot_free hg 256 (by omega)
    rw [free_none hf, tot4] at h1
    have h2 := hk.all
    have e : S.allP 4 = 0 + pos (S.prom 0) + pos (S.prom 1) + pos (S.prom 2) + pos (S.prom 3) := rfl
    rw [e] at h2
    have i0 := hk.inv 0 (by omega)
    have i1 := hk.inv 1 (by omega)
    have i2 := hk.inv 2 (by omega)
    have i3 := hk.inv 3 (by omega)
    obtain rfl | rfl | rfl | rfl : o = 0 ∨ o = 1 ∨ o = 2 ∨ o = 3 := by omega
    all_goals omega
theorem ok_take {S : Po} (h : S.Ok) (o : Int) : (S.takeS o).Ok := by
  refine ⟨inv_take h.inv o, ?_⟩
  have : (S.takeS o).prom = S.prom := by
    unfold Po.takeS; split <;> rfl
  have e : (S.takeS o).allP 4 = S.allP 4 := by simp only [Po.allP, this]
  rw [e]; exact h.all
theorem ok_rel {S : Po} (h : S.Ok) (L : List Nat) : (S.rel L).Ok := by
  refine ⟨inv_rel h.inv L, ?_⟩
  have e : (S.rel L).allP 4 = S.allP 4 := by simp only [Po.allP, rel_prom]
  rw [e]; exact h.all
theorem ok_give {S : Po} (h : S.Ok) (o : Int) (L : List Int) : (S.giveS o L).Ok := by
  unfold Po.giveS; split
  · exact ok_rel h _
  · exact h
theorem ok_put {S : Po} (h : S.Ok) (f a : Nat) (x : Int) : (S.put f a x).Ok := ⟨inv_put h.inv f a x, h.all⟩
theorem ok_0 : po0.Ok := ⟨inv0, by decide⟩
theorem allP_upd {S : Po} {o : Nat} {n : Int} (ho : o < 4) (hq : neB (S.prom o) = false) (hn : 0 ≤ n) : ({ S with prom := upd S.prom o n } : Po).allP 4 = S.allP 4 + n := by
  have e2 : pos (S.prom o) = 0 := by unfold pos; rw [if_neg (by simpa [neB] using hq)]
  have e3 : pos n = n := by unfold pos; rw [if_pos hn]
  obtain rfl | rfl | rfl | rfl : o = 0 ∨ o = 1 ∨ o = 2 ∨ o = 3 := by omega
  all_goals
    simp only [Po.allP, upd, Nat.reduceEqDiff, if_true, if_false, e3, e2, Nat.zero_ne_one, Nat.one_ne_zero, Nat.succ_ne_self]
    omega
theorem ok_prom {S : Po} (h : S.Ok) (o n : Int) : (S.promS o n).Ok := by
  refine ⟨inv_prom h.inv o n, ?_⟩
  unfold Po.promS; split
  · rename_i hv
    rcases promV_cases S o n with ⟨h1, _⟩ | ⟨ho, h0, _, ⟨h1, _⟩ | ⟨hq, ⟨h1, _⟩ | ⟨_, h2⟩⟩⟩
    · rw [h1] at hv; cases hv
    · rw [h1] at hv; cases hv
    · rw [h1] at hv; cases hv
    · obtain ⟨k, rfl, hk⟩ := oB_true ho
      rw [Int.toNat_natCast] at hq ⊢
      rw [allP_upd hk hq h0]; exact h2
  · exact h.all
theorem ok_new {S : Po} (h : S.Ok) (o n : Int) : (newS S o n).Ok := by
  unfold newS; split
  · exact ok_prom h o n
  · exact h
/-! ### a table and its pool -/
structure Joint (S : Po) (T : Ta) : Prop where
  o4 : T.o < 4
  pm : S.prom T.o = T.n
  own : ∀ k, k < T.n → 0 ≤ T.fr k → S.own (T.fr k).toNat = T.o
  inj : ∀ j k, j < T.n → k < T.n → 0 ≤ T.fr j → T.fr j = T.fr k → j = k
  cnt : (S.heldL T.o 256).length = (T.mapL T.n).length
theorem nat_of {x : Int} (h : 0 ≤ x) : ∃ q : Nat, x = q := ⟨x.toNat, by omega⟩
/-- the frame of a page is held -/
theorem Joint.held {S : Po} {T : Ta} (J : Joint S T) (hg : T.Good) (k : Nat) (hk : k < T.n) (h0 : 0 ≤ T.fr k) : ∃ q : Nat, T.fr k = q ∧ 16 ≤ q ∧ q < 256 ∧ S.own q = T.o := by
  obtain ⟨q, hq⟩ := nat_of h0
  have h1 := J.own k hk h0
  have h2 := hg.fr k
  rw [hq, Int.toNat_natCast] at h1
  exact ⟨q, hq, by omega, by omega, h1⟩
theorem neB_of {x : Int} (h : 0 ≤ x) : neB x = true := by simpa [neB] using h
theorem not_neB {x : Int} (h : neB x = false) : x < 0 := by simpa [neB] using h
/-- a page that is not mapped may be mapped -/
theorem Joint.map {S : Po} {T : Ta} (J : Joint S T) (hS : S.Good) (hO : S.Ok) (hT : T.Good) (k : Nat) (hk : k < T.n) (h0 : neB (T.fr k) = false) :
    S.takeE T.o = 0 ∧ ∃ f, S.takeF T.o = f ∧ S.takeS T.o = S.tk f T.o ∧ 16 ≤ f ∧ f < 256 ∧ neB (S.own f) = false ∧ (∀ j, 16 ≤ j → j < f → neB (S.own j) = true) ∧ Joint (S.tk f T.o) (T.put k f) := by
  have hlt : (T.mapL T.n).length < T.n := by
    have := cnt_set (P := fun i => neB (T.fr i)) (Q := upd (fun i => neB (T.fr i)) k true) k h0 (by simp) T.n (fun j _ hj => upd_other _ _ _ _ hj)
    rw [if_pos hk] at this
    have hle := List.length_filter_le (upd (fun i => neB (T.fr i)) k true) (List.range T.n)
    rw [List.length_range] at hle
    unfold Ta.mapL; omega
  have hroom : ((S.heldL T.o 256).length : Int) < pos (S.prom T.o) := by
    rw [J.pm, J.cnt]; unfold pos; rw [if_pos (by omega)]; omega
  have hoB : oB (T.o : Int) = true := by have := J.o4; simp [oB]; omega
  obtain ⟨f0, hf0⟩ := low_of_room hS hO T.o J.o4 hroom
  rcases take_cases S T.o with ⟨h, _⟩ | ⟨_, h, _⟩ | ⟨_, _, h, _⟩ | ⟨_, _, f, hf, e1, e2, e3⟩
  · rw [hoB] at h; cases h
  · rw [Int.toNat_natCast] at h; omega
  · rw [h] at hf0; cases hf0
  · obtain ⟨l1, l2, l3, l4⟩ := lowF_some hf
    have hown : ∀ j, j ≠ f → (S.tk f T.o).own j = S.own j := fun j hj => upd_other _ _ _ _ hj
    have hownf : (S.tk f T.o).own f = T.o := upd_same _ _ _
    have hfr : ∀ j, j ≠ k → (T.put k f).fr j = T.fr j := fun j hj => upd_other _ _ _ _ hj
    have hfrk : (T.put k f).fr k = f := upd_same _ _ _
    have hne : ∀ j, j < T.n → 0 ≤ T.fr j → (T.fr j).toNat ≠ f := fun j hj hj0 e => by
      have := J.own j hj hj0
      rw [e] at this
      rw [this] at l3
      have := not_neB l3
      omega
    refine ⟨e1, f, e2, e3, l1, l2, l3, l4, ⟨J.o4, J.pm, fun j hj hj0 => ?_, fun i j hi hj hi0 hij => ?_, ?_⟩⟩
    · by_cases e : j = k
      · subst e; rw [hfrk, Int.toNat_natCast]; exact hownf
      · rw [hfr j e] at hj0 ⊢
        rw [hown _ (hne j hj hj0)]; exact J.own j hj hj0
    · by_cases ei : i = k
      · by_cases ej : j = k
        · rw [ei, ej]
        · subst ei
          rw [hfrk, hfr j ej] at hij
          exact absurd (by rw [← hij]; exact Int.toNat_natCast f) (hne j hj (by omega))
      · by_cases ej : j = k
        · subst ej
          rw [hfrk, hfr i ei] at hij
          rw [hfr i ei] at hi0
          exact absurd (by rw [hij]; exact Int.toNat_natCast f) (hne i hi hi0)
        · rw [hfr i ei] at hij hi0
          rw [hfr j ej] at hij
          exact J.inj i j hi hj hi0 hij
    · have c1 := cnt_set (P := fun (i : Nat) => S.isB T.o i) (Q := fun (i : Nat) => (S.tk f T.o).isB T.o i) f (by
          cases hb : S.isB T.o f
          · rfl
          · have := ((isB_nat (S := S) (o := (T.o : Int)) l2).1 hb).1
            rw [this] at l3; have := not_neB l3; omega) ((isB_nat l2).2 ⟨hownf, by omega⟩) 256 (fun j hj hjf => isB_congr hj (hown j hjf))
      have c2 := cnt_set (P := fun i => neB (T.fr i)) (Q := fun i => neB ((T.put k f).fr i)) k h0 (by show neB ((T.put k f).fr k) = true; rw [hfrk]; exact neB_of (by omega)) T.n (fun j _ hj => by show neB ((T.put k f).fr j) = neB (T.fr j); rw [hfr j hj])
      rw [if_pos l2] at c1
      rw [if_pos hk] at c2
      have := J.cnt
      unfold Po.heldL Ta.mapL at *
      show ((List.range 256).filter fun (i : Nat) => (S.tk f T.o).isB T.o i).length = ((List.range T.n).filter fun i => neB ((T.put k f).fr i)).length
      omega
/-- a page that is mapped may be unmapped -/
theorem Joint.unmap {S : Po} {T : Ta} (J : Joint S T) (hT : T.Good) (k : Nat) (hk : k < T.n) (h0 : 0 ≤ T.fr k) :
    ∃ q : Nat, T.fr k = q ∧ 16 ≤ q ∧ q < 256 ∧ S.own q = T.o ∧ S.giveV T.o [T.fr k] = 0 ∧ S.giveS T.o [T.fr k] = S.rel1 q ∧ Joint (S.rel1 q) (T.put k (-1)) := by
  obtain ⟨q, hq, q16, q256, hown0⟩ := J.held hT k hk h0
  have hoB : oB (T.o : Int) = true := by have := J.o4; simp [oB]; omega
  have hisB : S.isB T.o q = true := (isB_nat q256).2 ⟨hown0, by omega⟩
  have hok : S.okG T.o [T.fr k] := ⟨by simp, fun f hf => by
    obtain rfl := List.mem_singleton.1 hf
    rw [hq]; exact hisB⟩
  have hown : ∀ j, j ≠ q → (S.rel1 q).own j = S.own j := fun j hj => upd_other _ _ _ _ hj
  have hownq : (S.rel1 q).own q = -1 := upd_same _ _ _
  have hfr : ∀ j, j ≠ k → (T.put k (-1)).fr j = T.fr j := fun j hj => upd_other _ _ _ _ hj
  have hfrk : (T.put k (-1)).fr k = -1 := upd_same _ _ _
  have hne : ∀ j, j < T.n → j ≠ k → 0 ≤ T.fr j → (T.fr j).toNat ≠ q := fun j hj hjk hj0 e => by
    exact hjk (J.inj j k hj hk hj0 (by rw [hq]; omega))
  rcases give_cases S T.o [T.fr k] with ⟨h, _⟩ | ⟨_, ⟨h, _⟩ | ⟨_, e1, e2⟩⟩
  · rw [hoB] at h; cases h
  · exact absurd hok h
  · refine ⟨q, hq, q16, q256, hown0, e1, by rw [e2, hq]; rfl, ⟨J.o4, J.pm, fun j hj hj0 => ?_, fun i j hi hj hi0 hij => ?_, ?_⟩⟩
    · by_cases e : j = k
      · subst e; rw [hfrk] at hj0; omega
      · rw [hfr j e] at hj0 ⊢
        rw [hown _ (hne j hj e hj0)]; exact J.own j hj hj0
    · by_cases ei : i = k
      · subst ei; rw [hfrk] at hi0; omega
      · by_cases ej : j = k
        · subst ej
          rw [hfrk, hfr i ei] at hij
          rw [hfr i ei] at hi0; omega
        · rw [hfr i ei] at hij hi0
          rw [hfr j ej] at hij
          exact J.inj i j hi hj hi0 hij
    · have c1 := cnt_set (Q := fun (i : Nat) => S.isB T.o i) (P := fun (i : Nat) => (S.rel1 q).isB T.o i) q (by
          cases hb : (S.rel1 q).isB T.o q
          · rfl
          · have := ((isB_nat (S := S.rel1 q) (o := (T.o : Int)) q256).1 hb).1
            rw [hownq] at this; omega) hisB 256 (fun j hj hjf => (isB_congr hj (hown j hjf)).symm)
      have c2 := cnt_set (Q := fun i => neB (T.fr i)) (P := fun i => neB ((T.put k (-1)).fr i)) k (by show neB ((T.put k (-1)).fr k) = false; rw [hfrk]; rfl) (neB_of h0) T.n (fun j _ hj => by show neB (T.fr j) = neB ((T.put k (-1)).fr j); rw [hfr j hj])
      rw [if_pos q256] at c1
      rw [if_pos hk] at c2
      have := J.cnt
      unfold Po.heldL Ta.mapL at *
      show ((List.range 256).filter fun (i : Nat) => (S.rel1 q).isB T.o i).length = ((List.range T.n).filter fun i => neB ((T.put k (-1)).fr i)).length
      omega
/-- another owner's frame is taken, is given back: the table's pages stay -/
theorem Joint.other {S S' : Po} {T : Ta} (J : Joint S T) (hT : T.Good) (q : Nat) (hp : S'.prom T.o = S.prom T.o) (h : ∀ j, j ≠ q → S'.own j = S.own j) (h1 : S.own q ≠ T.o) (h2 : S'.own q ≠ T.o) : Joint S' T := by
  refine ⟨J.o4, hp.trans J.pm, fun k hk hk0 => ?_, J.inj, ?_⟩
  · have := J.own k hk hk0
    rw [h _ (fun e => h1 (e ▸ this))]; exact this
  · have c := cnt_congr (P := fun (i : Nat) => S.isB T.o i) (Q := fun (i : Nat) => S'.isB T.o i) 256 (fun j hj => by
      by_cases e : j = q
      · subst e
        have a := isB_nat (S := S) (o := (T.o : Int)) hj
        have b := isB_nat (S := S') (o := (T.o : Int)) hj
        cases ha : S.isB T.o j
        · cases hb : S'.isB T.o j
          · rfl
          · exact absurd (b.1 hb).1 h2
        · exact absurd (a.1 ha).1 h1
      · exact isB_congr hj (h j e))
    have := J.cnt
    unfold Po.heldL at *
    omega
theorem joint_0 {S : Po} (hO : S.Ok) (o n : Nat) (ho : o < 4) (hn1 : n ≤ 64) (hv : S.promV o n = 0) : Joint (S.promS o n) (ta0 o n) := by
  have hs : S.promS o n = { S with prom := upd S.prom o n } := by unfold Po.promS; rw [if_pos hv, Int.toNat_natCast]
  have hq : neB (S.prom o) = false := by
    rcases promV_cases S o n with ⟨h1, _⟩ | ⟨_, h0, _, ⟨h1, _⟩ | ⟨hq, _⟩⟩
    · rw [h1] at hv; cases hv
    · rw [h1] at hv; cases hv
    · exact hq
  have hz : (S.heldL o 256).length = 0 := by
    have := hO.inv o ho
    unfold pos at this; rw [if_neg (by have := not_neB hq; omega)] at this; omega
  rw [hs]
  refine ⟨ho, upd_same _ _ _, fun k _ h => by simp [ta0] at h, fun j k _ _ h => by simp [ta0] at h, ?_⟩
  have e : (({ S with prom := upd S.prom o n } : Po).heldL o 256) = S.heldL o 256 := rfl
  show (({ S with prom := upd S.prom o n } : Po).heldL o 256).length = _
  rw [e, hz]
  symm
  rw [List.length_eq_zero_iff]
  unfold Ta.mapL
  rw [List.filter_eq_nil_iff]
  intro i _
  simp [ta0, neB]
theorem Joint.promS {S : Po} {T : Ta} (J : Joint S T) (o : Nat) (n : Int) (h : o ≠ T.o) : Joint (S.promS o n) T := by
  unfold Po.promS; split
  · rw [Int.toNat_natCast]
    exact ⟨J.o4, (upd_other _ _ _ _ (Ne.symm h)).trans J.pm, J.own, J.inj, J.cnt⟩
  · exact J
theorem Joint.put {S : Po} {T : Ta} (J : Joint S T) (f a : Nat) (x : Int) : Joint (S.put f a x) T := ⟨J.o4, J.pm, J.own, J.inj, J.cnt⟩
theorem Joint.mark {S : Po} {T : Ta} (J : Joint S T) (k : Nat) (b : Bool) : Joint S (T.mark k b) := ⟨J.o4, J.pm, J.own, J.inj, J.cnt⟩
/-- how many frames are free behind a Take, behind a Give -/
theorem free_tk {S : Po} (f : Nat) (o : Nat) (h1 : 16 ≤ f) (h2 : f < 256) (h3 : neB (S.own f) = false) : S.freeN 256 = (S.tk f o).freeN 256 + 1 := by
  have c := cnt_set (Q := fun i => decide (16 ≤ i) && !neB (S.own i)) (P := fun i => decide (16 ≤ i) && !neB ((S.tk f o).own i)) f (by
    have : (S.tk f o).own f = o := upd_same _ _ _
    show (decide (16 ≤ f) && !neB ((S.tk f o).own f)) = false
    rw [this, neB_of (by omega)]; simp) (by show (decide (16 ≤ f) && !neB (S.own f)) = true; rw [h3]; simpa using h1) 256 (fun j _ hj => by
    have : (S.tk f o).own j = S.own j := upd_other _ _ _ _ hj
    show (decide (16 ≤ j) && !neB (S.own j)) = (decide (16 ≤ j) && !neB ((S.tk f o).own j))
    rw [this])
  rw [if_pos h2] at c
  exact c
theorem free_rel1 {S : Po} (q : Nat) (h1 : 16 ≤ q) (h2 : q < 256) (h3 : 0 ≤ S.own q) : (S.rel1 q).freeN 256 = S.freeN 256 + 1 := by
  have c := cnt_set (P := fun i => decide (16 ≤ i) && !neB (S.own i)) (Q := fun i => decide (16 ≤ i) && !neB ((S.rel1 q).own i)) q (by
    show (decide (16 ≤ q) && !neB (S.own q)) = false
    rw [neB_of h3]; simp) (by
    have : (S.rel1 q).own q = -1 := upd_same _ _ _
    show (decide (16 ≤ q) && !neB ((S.rel1 q).own q)) = true
    rw [this]; simp [h1, neB]) 256 (fun j _ hj => by
    have : (S.rel1 q).own j = S.own j := upd_other _ _ _ _ hj
    show (decide (16 ≤ j) && !neB ((S.rel1 q).own j)) = (decide (16 ≤ j) && !neB (S.own j))
    rw [this])
  rw [if_pos h2] at c
  exact c
end Go.Proofs.Ytoejpdhcibbgdaa

/-
  A POOL WITH ONE OWNER: which frame is taken, how many are held. It is about the pool's value alone.
-/
import Derived.Test.YtjjcbkmdmdkgiaaPy
namespace Go.Proofs.Ytjjcbkmdmdkgiaa
open Go.RowKit
set_option linter.unusedSimpArgs false
set_option linter.unusedVariables false

theorem lowF_is {S : Po} {q : Nat} (h0 : 16 ≤ q) (h1 : q < 256) (h2 : neB (S.own q) = false) (h3 : ∀ j, 16 ≤ j → j < q → neB (S.own j) = true) : S.lowF = some q := by
  cases h : S.lowF with
  | none => rw [lowF_none h q h0 h1] at h2; cases h2
  | some f =>
    obtain ⟨l1, l2, l3, l4⟩ := lowF_some h
    rcases Nat.lt_trichotomy f q with h5 | h5 | h5
    · rw [h3 f l1 h5] at l3; cases l3
    · rw [h5]
    · rw [l4 q h0 h5] at h2; cases h2
theorem take_at {S : Po} {o : Int} {q : Nat} (ho : oB o = true) (hl : ((S.heldL o 256).length : Int) < pos (S.prom o.toNat)) (h0 : 16 ≤ q) (h1 : q < 256) (h2 : neB (S.own q) = false) (h3 : ∀ j, 16 ≤ j → j < q → neB (S.own j) = true) :
    S.takeE o = 0 ∧ S.takeF o = q ∧ S.takeS o = S.tk q o := by
  have hq := lowF_is h0 h1 h2 h3
  rcases take_cases S o with ⟨h, _⟩ | ⟨_, h, _⟩ | ⟨_, _, h, _⟩ | ⟨_, _, f, h, e1, e2, e3⟩
  · rw [ho] at h; cases h
  · omega
  · rw [hq] at h; cases h
  · rw [hq] at h
    obtain rfl := Option.some.inj h
    exact ⟨e1, e2, e3⟩
theorem take_full {S : Po} {o : Int} (ho : oB o = true) (hl : pos (S.prom o.toNat) ≤ ((S.heldL o 256).length : Int)) : S.takeE o = 13 ∧ S.takeF o = 0 ∧ S.takeS o = S := by
  rcases take_cases S o with ⟨h, _⟩ | ⟨_, h, e1, e2, e3⟩ | ⟨_, h, _⟩ | ⟨_, h, _⟩
  · rw [ho] at h; cases h
  · exact ⟨e1, e2, e3⟩
  · omega
  · omega
/-- o holds just the frames of P, all of them in 16 .. 79 -/
structure Low (S : Po) (o n : Nat) (P : Nat → Bool) : Prop where
  o4 : o < 4
  pm : S.prom o = n
  ow : ∀ f, S.own f = if P f = true then (o : Int) else -1
  rg : ∀ f, P f = true → 16 ≤ f ∧ f < 80
theorem Low.oB {S : Po} {o n : Nat} {P : Nat → Bool} (h : Low S o n P) : oB (o : Int) = true := by have := h.o4; simp [Go.Proofs.Ytjjcbkmdmdkgiaa.oB]; omega
theorem Low.neB {S : Po} {o n : Nat} {P : Nat → Bool} (h : Low S o n P) (f : Nat) : neB (S.own f) = P f := by
  rw [h.ow f]; cases hp : P f <;> simp [Go.Proofs.Ytjjcbkmdmdkgiaa.neB]
theorem Low.isB {S : Po} {o n : Nat} {P : Nat → Bool} (h : Low S o n P) (f : Nat) (hf : f < 256) : S.isB o f = P f := by
  have h1 := isB_nat (S := S) (o := (o : Int)) hf
  rw [h.ow f] at h1
  cases hp : P f
  · rw [hp] at h1
    cases h2 : S.isB o f
    · rfl
    · have := (h1.1 h2).1; simp at this
  · rw [hp] at h1; exact h1.2 ⟨by simp, by omega⟩
theorem Low.hB {S : Po} {o n : Nat} {P : Nat → Bool} (h : Low S o n P) (f : Nat) (hf : f < 256) : S.hB (f : Int) = P f := by rw [hB_nat hf]; exact h.neB f
theorem Low.who {S : Po} {o n : Nat} {P : Nat → Bool} (h : Low S o n P) (f : Nat) (hf : f < 256) : S.who (f : Int) = if P f = true then (o : Int) else 0 := by
  unfold Po.who
  rw [h.hB f hf, Int.toNat_natCast, h.ow f]
  cases P f <;> simp
/-- all frames below k but q -/
theorem Low.le {S : Po} {o n : Nat} {P : Nat → Bool} (h : Low S o n P) (q : Nat) (hq : 16 ≤ q ∧ q < 80) (hP : P q = false) : ∀ k, k ≤ 256 → (S.heldL o k).length ≤ (min k 80 - 16) - (if q < k then 1 else 0)
  | 0, _ => by simp [Po.heldL]
  | k + 1, hk => by
    have ih := Low.le h q hq hP k (by omega)
    rw [heldL_succ, List.length_append, h.isB k (by omega)]
    cases hp : P k
    · simp only [Bool.false_eq_true, if_false, List.length_nil]
      split at ih <;> split <;> omega
    · have := h.rg k hp
      have hne : k ≠ q := fun e => by rw [e, hP] at hp; cases hp
      simp only [if_true, List.length_singleton]
      split at ih <;> split <;> omega
theorem Low.count {S : Po} {o n m : Nat} {P : Nat → Bool} (h : Low S o n P) (hm : m ≤ 64) (hP : ∀ f, P f = decide (16 ≤ f ∧ f < 16 + m)) : ∀ k, k ≤ 256 → (S.heldL o k).length = min k (16 + m) - 16
  | 0, _ => by simp [Po.heldL]
  | k + 1, hk => by
    have ih := Low.count h hm hP k (by omega)
    rw [heldL_succ, List.length_append, h.isB k (by omega), hP k]
    by_cases hp : 16 ≤ k ∧ k < 16 + m
    · rw [if_pos (by simpa using hp)]; simp only [List.length_singleton]; omega
    · rw [if_neg (by simpa using hp)]; simp only [List.length_nil]; omega
theorem Low.free {S : Po} {o n m : Nat} {P : Nat → Bool} (h : Low S o n P) (hm : m ≤ 64) (hP : ∀ f, P f = decide (16 ≤ f ∧ f < 16 + m)) : ∀ k, k ≤ 256 → S.freeN k = (k - 16) - (min k (16 + m) - 16)
  | 0, _ => by simp [Po.freeN]
  | k + 1, hk => by
    have ih := Low.free h hm hP k (by omega)
    rw [freeN_succ, h.neB k, hP k]
    by_cases hp : 16 ≤ k ∧ k < 16 + m
    · rw [if_neg (by simp [hp])]; omega
    · by_cases h16 : 16 ≤ k
      · rw [if_pos ⟨h16, by simpa using hp⟩]; omega
      · rw [if_neg (by simp [h16])]; omega
/-- the lowest free frame is taken -/
theorem Low.take {S : Po} {o n : Nat} {P : Nat → Bool} (h : Low S o n P) (q : Nat) (hq : 16 ≤ q ∧ q < 80) (hP : P q = false) (hall : ∀ j, 16 ≤ j → j < q → P j = true) (hn : (S.heldL o 256).length < n) :
    S.takeE o = 0 ∧ S.takeF o = q ∧ Low (S.takeS o) o n (fun f => P f || decide (f = q)) := by
  have hp : ((S.heldL (o : Int) 256).length : Int) < pos (S.prom (o : Int).toNat) := by
    rw [Int.toNat_natCast, h.pm]; unfold pos; rw [if_pos (by omega)]; omega
  obtain ⟨e1, e2, e3⟩ := take_at h.oB hp hq.1 (by omega) (by rw [h.neB]; exact hP) (fun j h1 h2 => by rw [h.neB]; exact hall j h1 h2)
  refine ⟨e1, e2, ?_⟩
  rw [e3]
  refine ⟨h.o4, h.pm, fun f => ?_, fun f hf => ?_⟩
  · show upd S.own q o f = _
    by_cases e : f = q
    · subst e; simp
    · rw [upd_other _ _ _ _ e, h.ow f]; simp [e]
  · by_cases e : f = q
    · subst e; exact hq
    · exact h.rg f (by simpa [e] using hf)
theorem Low.take64 {S : Po} {o : Nat} {P : Nat → Bool} (h : Low S o 64 P) (q : Nat) (hq : 16 ≤ q ∧ q < 80) (hP : P q = false) (hall : ∀ j, 16 ≤ j → j < q → P j = true) :
    S.takeE o = 0 ∧ S.takeF o = q ∧ Low (S.takeS o) o 64 (fun f => P f || decide (f = q)) :=
  h.take q hq hP hall (by have := h.le q hq hP 256 (by omega); rw [if_pos (by omega)] at this; omega)
theorem Low.full {S : Po} {o : Nat} {P : Nat → Bool} (h : Low S o 64 P) (hP : ∀ f, P f = decide (16 ≤ f ∧ f < 80)) : S.takeE o = 13 ∧ S.freeN 256 = 176 := by
  have h1 := h.count (m := 64) (by omega) hP 256 (by omega)
  have h2 := h.free (m := 64) (by omega) hP 256 (by omega)
  refine ⟨(take_full h.oB ?_).1, h2⟩
  rw [Int.toNat_natCast, h.pm, h1]; decide
/-- one frame is given back -/
theorem Low.give {S : Po} {o n : Nat} {P : Nat → Bool} (h : Low S o n P) (q : Nat) (hP : P q = true) :
    S.giveV o [(q : Int)] = 0 ∧ S.giveS o [(q : Int)] = S.rel1 q ∧ Low (S.rel1 q) o n (fun f => P f && !decide (f = q)) := by
  have hq := h.rg q hP
  have hok : S.okG o [(q : Int)] := ⟨by simp, fun f hf => by
    obtain rfl := List.mem_singleton.1 hf
    rw [h.isB q (by omega)]; exact hP⟩
  rcases give_cases S o [(q : Int)] with ⟨h1, _⟩ | ⟨_, ⟨h1, _⟩ | ⟨_, e1, e2⟩⟩
  · rw [h.oB] at h1; cases h1
  · exact absurd hok h1
  · refine ⟨e1, by rw [e2]; rfl, h.o4, h.pm, fun f => ?_, fun f hf => ?_⟩
    · show upd S.own q (-1) f = _
      by_cases e : f = q
      · subst e; simp
      · rw [upd_other _ _ _ _ e, h.ow f]; simp [e]
    · simp only [Bool.and_eq_true] at hf
      exact h.rg f hf.1
/-- what is promised in an empty pool -/
theorem low_prom (o n : Nat) (ho : o < 4) (hn : n ≤ 64) : po0.promV o n = 0 ∧ Low (po0.promS o n) o n (fun _ => false) := by
  have e : po0.promV o n = 0 := by
    rcases promV_cases po0 o n with ⟨_, h | h | h⟩ | ⟨_, _, _, ⟨_, h⟩ | ⟨_, ⟨_, h⟩ | ⟨h, _⟩⟩⟩
    · simp [oB] at h; omega
    · omega
    · omega
    · simp [po0, neB] at h
    · have : po0.allP 4 = 0 := by decide
      omega
    · exact h
  refine ⟨e, ho, ?_, fun f => ?_, fun f hf => by cases hf⟩
  · unfold Po.promS; rw [if_pos e]; simp
  · unfold Po.promS; rw [if_pos e]; simp [po0]
end Go.Proofs.Ytjjcbkmdmdkgiaa

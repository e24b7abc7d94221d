/-
  Map and Unmap of a page that is there, between a table and its pool: what they answer and leave, by value alone.
-/
import Derived.Test.YtoejpdhcibbgdaaTp
namespace Go.Proofs.Ytoejpdhcibbgdaa
open Go.RowKit
set_option linter.unusedSimpArgs false
set_option linter.unusedVariables false

theorem map_new {S : Po} {T : Ta} (J : Joint S T) (hS : S.Good) (hO : S.Ok) (hT : T.Good) (k : Nat) (hk : k < T.n) (h0 : neB (T.fr k) = false) :
    mapE S T k = 0 ∧ ∃ f : Nat, mapF S T k = f ∧ mapS S T k = S.tk f T.o ∧ mapT S T k = T.put k f ∧ 16 ≤ f ∧ f < 256 ∧ neB (S.own f) = false ∧ (∀ j, 16 ≤ j → j < f → neB (S.own j) = true) ∧ Joint (S.tk f T.o) (T.put k f) := by
  obtain ⟨e1, f, e2, e3, l1, l2, l3, l4, hj⟩ := J.map hS hO hT k hk h0
  have hp := pB_nat hk
  have hm : T.mB (k : Int) = false := by rw [mB_nat hk]; exact h0
  refine ⟨?_, f, ?_, ?_, ?_, l1, l2, l3, l4, hj⟩
  · unfold mapE; simp [hp, hm, e1]
  · unfold mapF; simp [hp, hm, e2]
  · unfold mapS; simp [hp, hm, e3]
  · unfold mapT; simp [hp, hm, e1, e2]
theorem map_old {S : Po} {T : Ta} (k : Nat) (hk : k < T.n) (h0 : 0 ≤ T.fr k) : mapE S T k = 0 ∧ mapF S T k = T.fr k ∧ mapS S T k = S ∧ mapT S T k = T := by
  have hp := pB_nat hk
  have hm : T.mB (k : Int) = true := by rw [mB_nat hk]; exact neB_of h0
  unfold mapE mapF mapS mapT
  simp [hp, hm]
theorem map_ok {S : Po} {T : Ta} (J : Joint S T) (hS : S.Good) (hO : S.Ok) (hT : T.Good) (k : Nat) (hk : k < T.n) :
    mapE S T k = 0 ∧ ∃ f : Nat, mapF S T k = f ∧ (mapT S T k).fr k = f ∧ 16 ≤ f ∧ f < 256 ∧ (mapS S T k).own f = T.o ∧ (mapT S T k).gd = T.gd ∧ (∀ j, j ≠ k → (mapT S T k).fr j = T.fr j) ∧ Joint (mapS S T k) (mapT S T k) ∧ (mapS S T k).Ok := by
  cases hb : neB (T.fr k)
  · obtain ⟨e1, f, e2, e3, e4, l1, l2, l3, _, hj⟩ := map_new J hS hO hT k hk hb
    have ho : (S.tk f T.o).Ok := by
      have := ok_take hO T.o
      obtain ⟨_, f2, g1, g2, _⟩ := J.map hS hO hT k hk hb
      have hff : f2 = f := by
        have h1 : mapF S T k = f2 := by
          have hp := pB_nat hk
          have hm : T.mB (k : Int) = false := by rw [mB_nat hk]; exact hb
          unfold mapF; simp [hp, hm, g1]
        rw [e2] at h1; omega
      subst hff
      rw [g2] at this; exact this
    refine ⟨e1, f, e2, by rw [e4]; exact upd_same _ _ _, l1, l2, by rw [e3]; exact upd_same _ _ _, ?_, fun j hj2 => by rw [e4]; exact upd_other _ _ _ _ hj2, by rw [e3, e4]; exact hj, by rw [e3]; exact ho⟩
    rw [e4]
    funext j
    show upd T.gd k false j = T.gd j
    by_cases e : j = k
    · subst e
      rw [upd_same]
      cases hg : T.gd j
      · rfl
      · have := hT.gd j hg
        have := not_neB hb
        omega
    · exact upd_other _ _ _ _ e
  · have h0 : 0 ≤ T.fr k := by simpa [neB] using hb
    obtain ⟨e1, e2, e3, e4⟩ := map_old (S := S) k hk h0
    obtain ⟨q, hq, q1, q2, q3⟩ := J.held hT k hk h0
    rw [e3, e4]
    exact ⟨e1, q, by rw [e2, hq], hq, q1, q2, q3, rfl, fun _ _ => rfl, J, hO⟩
theorem un_ok {S : Po} {T : Ta} (J : Joint S T) (hO : S.Ok) (hT : T.Good) (k : Nat) (hk : k < T.n) (h0 : 0 ≤ T.fr k) :
    unE T k = 0 ∧ ∃ q : Nat, T.fr k = q ∧ 16 ≤ q ∧ q < 256 ∧ S.own q = T.o ∧ unS S T k = S.rel1 q ∧ unT T k = T.put k (-1) ∧ Joint (S.rel1 q) (T.put k (-1)) ∧ (S.rel1 q).Ok := by
  obtain ⟨q, h1, h2, h3, h4, h5, h6, h7⟩ := J.unmap hT k hk h0
  have hm : T.mB (k : Int) = true := by rw [mB_nat hk]; exact neB_of h0
  unfold unE unS unT
  rw [hm]
  simp only [if_true, Int.toNat_natCast]
  exact ⟨by trivial, q, h1, h2, h3, h4, h6, by trivial, h7, ok_rel hO [q]⟩
theorem un_no {S : Po} {T : Ta} {k : Int} (h : T.mB k = false) : unE T k = 22 ∧ unS S T k = S ∧ unT T k = T := by
  unfold unE unS unT; simp [h]
theorem hB_of {S : Po} {f : Nat} (h : f < 256) (h0 : 0 ≤ S.own f) : S.hB (f : Int) = true := by rw [hB_nat h]; exact neB_of h0
theorem bB_of {S : Po} {f a : Nat} (h : f < 256) (h0 : 0 ≤ S.own f) (ha : a < 64) : S.bB (f : Int) (a : Int) = true := by
  unfold Po.bB; rw [hB_of h h0]; simp [aB]; omega
end Go.Proofs.Ytoejpdhcibbgdaa

/-
  What law 8's walks share: the tables that came in, walks of one page; what a walk that came through leaves, by value.
-/
import Derived.Test.YtoejpdhcibbgdaaWkn
namespace Go.Proofs.Ytoejpdhcibbgdaa
open Go.RowKit
set_option linter.unusedSimpArgs false
set_option linter.unusedVariables false

theorem tables_row {w : World} {A : Option Addr} {len c : Nat} {Q : List Ap} (h : RowP w A len c Q) :
    ∃ L : List Int, L.length = 512 ∧ (∀ x ∈ L, 0 ≤ x ∧ x < 256) ∧ Calls Try.prog 12 #[.slice A len c] w fun e w' => ∃ g, e = .returned (.slice (some ⟨g, 0, none⟩) 512 512) ∧ Rd w' w'.heap.size (some ⟨g, 0, none⟩) (ub L) ∧ Below w.heap.size w w' := by
  obtain ⟨h1, h2, h3, h4, h5, h6⟩ := h
  refine ⟨rowL (tbF Q (min len 40)) 512, rowL_len _ _, rowL_mem fun j _ => tbF_bd h6 _ (by omega) j, ?_⟩
  refine (tables_any A len c Q h1 (by unfold maxLen at h3; omega) w h5 h6).mono ?_
  rintro e w' ⟨g, rfl, hg, hB, hb⟩
  exact ⟨g, rfl, hB.rd, hb⟩
/-- both, of these -/
theorem both_row {L : List Int} (hl : L.length = 512) (hL : ∀ x ∈ L, 0 ≤ x ∧ x < 256) (g : Nat) (w : World) (hR : Rd w w.heap.size (some ⟨g, 0, none⟩) (ub L)) :
    Calls Try.prog 11 #[.slice (some ⟨g, 0, none⟩) 512 512, .int .i64 8] w fun e w' =>
      ∃ (p : Bl) (q b t : Nat) (X : Rm), e = .returned (.tuple #[.pointer (some ⟨p.m, 0, none⟩), .pointer (some ⟨q, 0, none⟩)]) ∧ X.n = 8 ∧ Pr w w.heap.size p q b t w' X X := by
  refine (both_any (some ⟨g, 0, none⟩) 512 512 8 L hl.symm hL (by omega) (by omega) (by omega) w hR).mono ?_
  rintro e w' ⟨p, q, b, t, rfl, hP⟩
  exact ⟨p, q, b, t, btX 8 L, rfl, bt_n 8 L, hP⟩
/-- addresses of one page, roots of one table -/
theorem lk_same {X : Rm} {r r' v v' : Nat} (hr : r' / 64 = r / 64) (hv : v' / 64 = v / 64) : X.lkB r' v' = X.lkB r v ∧ X.lkA r' v' = X.lkA r v ∧ X.lkE r' v' = X.lkE r v := by
  have e1 : l1 r' v' = l1 r v := by unfold l1; omega
  have e2 : ∀ f, l2 f v' = l2 f v := fun f => by unfold l2; omega
  have e3 : decide (v' < 16384) = decide (v < 16384) := by rw [decide_eq_decide]; omega
  have eB : X.lkB r' v' = X.lkB r v := by unfold Rm.lkB; rw [e1, e2, e3]
  refine ⟨eB, ?_, ?_⟩
  · unfold Rm.lkA; rw [eB, e1, e2]
  · unfold Rm.lkE; rw [eB, e1, e2]
end Go.Proofs.Ytoejpdhcibbgdaa
namespace Go.Proofs.Ytoejpdhcibbgdaa
open Go.RowKit
set_option linter.unusedSimpArgs false
set_option linter.unusedVariables false

/-- a word that is written is read again; another one stays -/
theorem wn_wr (X : Rm) (c a u : Nat) (hu : u < 4294967296) (hc : c % 4 = 0) (ha : a % 4 = 0) : (X.wr c (w4 (u : Int))).wn a = if a = c then u else X.wn a := by
  have hl : (w4 (u : Int)).length = 4 := rfl
  unfold Rm.wn Rm.wd
  by_cases h : a = c
  · subst h
    rw [if_pos rfl, wr_b, wr_b, wr_b, wr_b, hl, if_pos (by omega), if_pos (by omega), if_pos (by omega), if_pos (by omega), Nat.sub_self, Nat.add_sub_cancel_left, Nat.add_sub_cancel_left, Nat.add_sub_cancel_left]
    show ((u : Int) % 256 + (u : Int) / 256 % 256 * 256 + (u : Int) / 65536 % 256 * 65536 + (u : Int) / 16777216 * 16777216).toNat = u
    omega
  · rw [if_neg h, wr_b, wr_b, wr_b, wr_b, hl, if_neg (by omega), if_neg (by omega), if_neg (by omega), if_neg (by omega)]
theorem l1_4 (r v : Nat) : l1 r v % 4 = 0 := by unfold l1; omega
section
variable {X : Rm} {r v : Nat} {k : Int} {s : Bool}
theorem doB_lk (h : X.doB r v k s = true) : isK k = true ∧ X.lkB r v = true ∧ X.lkE r v &&& btN k s = btN k s := by
  simpa [Rm.doB] using h
/-- the tables, behind a walk that came through -/
theorem do_lk (hX : X.Ok) (h : X.doB r v k s = true) : (X.doS r v k s).lkB r v = true ∧ (X.doS r v k s).lkE r v = X.us r v k := by
  obtain ⟨h1, h2, h3⟩ := doB_lk h
  obtain ⟨y1, y2, y3, y4, y5, y6⟩ := lk_yes h2
  have hn := doS_n X r v k s
  have e := (do_yes h).1
  by_cases hu : X.us r v k = X.lkE r v
  · rw [if_neg (by simpa using hu)] at e
    rw [e]; exact ⟨h2, hu.symm⟩
  · rw [if_pos hu] at e
    have hus : X.us r v k < 4294967296 := or_lt _ _ (lkE_lt hX r v) (mk_lt k)
    have hA4 : X.lkA r v % 4 = 0 := by rw [y5]; exact l2_4 _ _
    have hw := fun a ha => wn_wr X (X.lkA r v) a (X.us r v k) hus hA4 ha
    rw [← e] at hw
    have f1 := hw _ (l1_4 r v)
    have f2 := hw _ hA4
    rw [if_pos rfl] at f2
    -- the first entry leads on as before
    have g1 : (X.doS r v k s).wn (l1 r v) % 2 = 1 ∧ (X.doS r v k s).wn (l1 r v) / 256 = X.wn (l1 r v) / 256 := by
      rw [f1]
      by_cases hs : l1 r v = X.lkA r v
      · rw [if_pos hs, hs, ← y6]
        have e1 : X.lkE r v % 2 = 1 := by rw [y6, ← hs]; exact y3
        refine ⟨?_, or_div _ _ (mk_lt k)⟩
        have hm : mkN k % 2 = 0 := by unfold mkN; split <;> rfl
        unfold Rm.us
        rw [← Nat.and_one_is_mod, Nat.and_or_distrib_right, Nat.and_one_is_mod, Nat.and_one_is_mod, e1, hm]; rfl
      · rw [if_neg hs]; exact ⟨y3, rfl⟩
    have g2 : l2 ((X.doS r v k s).wn (l1 r v)) v = X.lkA r v := by rw [y5]; unfold l2; rw [g1.2]
    have hB : (X.doS r v k s).lkB r v = true := by
      unfold Rm.lkB
      rw [g2, hn, decide_eq_true y1, decide_eq_true y2, decide_eq_true g1.1, decide_eq_true (by rw [y5]; exact y4)]; rfl
    obtain ⟨_, _, _, _, z5, z6⟩ := lk_yes hB
    refine ⟨hB, ?_⟩
    rw [z6, z5, g2]; exact f2
/-- walked once, it is walked again alike -/
theorem do_again (hX : X.Ok) (h : X.doB r v k s = true) (s' : Bool) (hs : s' = s ∨ s' = true) :
    (X.doS r v k s).doB r v k s' = true ∧ (X.doS r v k s).doS r v k s' = X.doS r v k s ∧ (X.doS r v k s).us r v k = X.us r v k := by
  obtain ⟨h1, h2, h3⟩ := doB_lk h
  obtain ⟨l1, l2⟩ := do_lk hX h
  have hus : (X.doS r v k s).us r v k = X.us r v k := by
    show (X.doS r v k s).lkE r v ||| mkN k = _
    rw [l2]; exact or_self2 _ _
  have hneed : X.lkE r v &&& btN k s' = btN k s' := by
    rcases hs with rfl | rfl
    · exact h3
    · cases s
      · rw [bt_user] at h3; exact and_part _ _ _ h3
      · exact h3
  have hD : (X.doS r v k s).doB r v k s' = true := by
    unfold Rm.doB
    rw [h1, l1, l2]
    show (true && (true && decide ((X.lkE r v ||| mkN k) &&& btN k s' = btN k s'))) = true
    rw [decide_eq_true (and_keep _ _ _ hneed)]; rfl
  refine ⟨hD, ?_, hus⟩
  rw [(do_yes hD).1, if_neg]
  rw [hus, l2]; simp
/-- what a user may, the system may -/
theorem do_super (h : X.doB r v k true = false) : X.doB r v k false = false := by
  cases hf : X.doB r v k false
  · rfl
  · exfalso
    obtain ⟨h1, h2, h3⟩ := doB_lk hf
    rw [bt_user] at h3
    have : X.doB r v k true = true := by
      unfold Rm.doB
      rw [h1, h2, decide_eq_true (and_part _ _ _ h3)]; rfl
    rw [h] at this; cases this
theorem us_32 : X.us r v k &&& 32 = 32 := by
  have h := or_and (X.lkE r v) (mkN k)
  have e : mkN k = 32 ||| (if k = 3 then 64 else 0) := by unfold mkN; split <;> rfl
  show (X.lkE r v ||| mkN k) &&& 32 = 32
  rw [e] at h ⊢
  exact and_part _ _ _ h
theorem us_64 : X.us r v 3 &&& 64 = 64 := by
  have h := or_and (X.lkE r v) (mkN 3)
  have e : mkN 3 = 64 ||| 32 := rfl
  show (X.lkE r v ||| mkN 3) &&& 64 = 64
  rw [e] at h ⊢
  exact and_part _ _ _ h
end
end Go.Proofs.Ytoejpdhcibbgdaa

/-
  innkeeperlaw6.NestedNumbers returns true: its walk.
-/
import Derived.Test.YtomdimplakmpeaaWalkNestedBack
namespace Go.Proofs.Ytomdimplakmpeaa
open Go.RowKit
set_option linter.unusedSimpArgs false
set_option linter.unusedVariables false

section
variable {w0 w : World} {B g h r o n : Nat} {S : Po} {T : Ta}
theorem newT_no (o n : Int) (w : World) (hP : IsP w g S) (v : Int) (hv : newE S o n = v) (hv0 : v ≠ 0) :
    Calls Try.prog 9 #[.pointer (some ⟨g, 0, none⟩), .int .i64 o, .int .i64 n] w fun e w' => e = .returned (.tuple #[.pointer none, .int .i64 v]) ∧ IsP w' g S ∧ Turn g g w w' := by
  refine (newT_any o n w hP).mono ?_
  subst hv
  rintro e w' ⟨hp, ht, ⟨_, rfl⟩ | ⟨h, _⟩⟩
  · refine ⟨rfl, ?_, ht⟩
    unfold newS at hp; rw [if_neg hv0] at hp; exact hp
  · exact absurd h hv0
/-- Map of a page that has no frame: the lowest free one -/
def MapLow (w0 : World) (B g h r o n : Nat) (S : Po) (T : Ta) (q f : Nat) (e : Ending) (w' : World) : Prop :=
  e = .returned (.tuple #[.int .i64 (f : Int), .int .i64 0]) ∧ S.freeN 256 = (S.tk f o).freeN 256 + 1 ∧ Duo w0 B g h r o n w' (S.tk f o) (T.put q f)
theorem Duo.mapLow (d : Duo w0 B g h r o n w S T) (hB : w0.heap.size = B) (q : Nat) (hq : q < n) (h0 : neB (T.fr q) = false) (f : Nat) (hf : neB (S.own f) = false) (hf16 : 16 ≤ f) (hlow : ∀ j, 16 ≤ j → j < f → neB (S.own j) = true) :
    Calls Try.prog 10 #[.pointer (some ⟨h, 0, none⟩), .int .i64 q] w (MapLow w0 B g h r o n S T q f) := by
  obtain ⟨e1, f', e2, e3, e4, l1, l2, l3, l4, hj⟩ := map_new d.j d.p.good d.k d.t.good q (by rw [d.n]; exact hq) h0
  obtain ⟨_, _, _, _, _, _, _, _, _, _, hk⟩ := map_ok d.j d.p.good d.k d.t.good q (by rw [d.n]; exact hq)
  obtain rfl : f' = f := by
    rcases Nat.lt_trichotomy f' f with h | h | h
    · rw [hlow f' l1 h] at l3; cases l3
    · exact h
    · rw [l4 f hf16 h] at hf; cases hf
  refine (map_any (q : Int) w d.p d.t).mono ?_
  rintro e w' ⟨rfl, hp, ht, hu⟩
  rw [e3, d.o] at hp
  rw [e4] at ht
  rw [e3, d.o] at hk
  rw [d.o] at hj
  exact ⟨by rw [e1, e2], free_tk f' o l1 l2 l3, hp, ht, hj, hk, d.o, d.n, hu.below d.bg d.br d.b (d.size hB), d.bg, d.bh, d.br⟩
end
theorem nn1 : newE po0 4 4 = 1 ∧ newE po0 0 0 = 1 ∧ newE po0 0 65 = 1 := by decide +kernel
theorem nn2 : newE po0 ((2 : Nat) : Int) ((64 : Nat) : Int) = 0 := by decide +kernel
theorem nn3 : newE (po0.promS ((2 : Nat) : Int) ((64 : Nat) : Int)) 2 4 = 24 := by decide +kernel
theorem nn4 : (po0.promS ((2 : Nat) : Int) ((64 : Nat) : Int)).freeN 256 = 240 := by decide +kernel
/-- what the law's loop has mapped behind k rounds -/
structure Upto (k : Nat) (S : Po) (T : Ta) : Prop where
  ow : ∀ f, S.own f = if 16 ≤ f ∧ f < 16 + k then 2 else -1
  fr : ∀ q, q < 64 → T.fr q = if 64 ≤ q + k then ((79 - q : Nat) : Int) else -1
  free : S.freeN 256 + k = 240
theorem upto_0 : Upto 0 (po0.promS ((2 : Nat) : Int) ((64 : Nat) : Int)) (ta0 2 64) := by
  refine ⟨fun f => ?_, fun q hq => ?_, nn4⟩
  · rw [if_neg (by omega)]
    unfold Po.promS; split <;> rfl
  · rw [if_neg (by omega)]; rfl
theorem Upto.next {k : Nat} {S : Po} {T : Ta} (u : Upto k S T) (hk : k < 64) (hf : S.freeN 256 = (S.tk (16 + k) (2 : Nat)).freeN 256 + 1) : Upto (k + 1) (S.tk (16 + k) (2 : Nat)) (T.put (63 - k) ((16 + k : Nat) : Int)) := by
  refine ⟨fun f => ?_, fun q hq => ?_, by have := u.free; omega⟩
  · show upd S.own (16 + k) _ f = _
    by_cases e : f = 16 + k
    · subst e; rw [upd_same, if_pos (by omega)]; rfl
    · rw [upd_other _ _ _ _ e, u.ow f]
      by_cases h : 16 ≤ f ∧ f < 16 + k
      · rw [if_pos h, if_pos (by omega)]
      · rw [if_neg h, if_neg (by omega)]
  · show upd T.fr (63 - k) _ q = _
    by_cases e : q = 63 - k
    · subst e; rw [upd_same, if_pos (by omega)]; omega
    · rw [upd_other _ _ _ _ e, u.fr q hq]
      by_cases h : 64 ≤ q + k
      · rw [if_pos h, if_pos (by omega)]
      · rw [if_neg h, if_neg (by omega)]
theorem Upto.all {S : Po} {T : Ta} (u : Upto 64 S T) : ∀ k, k ≤ 64 → (T.mapL k).length = k
  | 0, _ => by simp [Ta.mapL]
  | k + 1, hk => by
    have e : neB (T.fr k) = true := by rw [u.fr k (by omega), if_pos (by omega)]; exact neB_of (by omega)
    rw [mapL_succ, List.length_append, Upto.all u k (by omega), if_pos e]; simp
set_option maxRecDepth 100000 in
set_option maxHeartbeats 4000000 in
theorem nestedNumbers_walk (w : World) :
    Calls Try.prog 3 #[] w fun e w' => e = .returned (.bool true) ∧ Below w.heap.size w w' := by
  go_enter Try.func3, Try.ntmps3
  go_wp2_with fail
  refine (newP_any _).mono ?_
  rintro e w1 ⟨rfl, hp1, hb1⟩
  have hz1 := hp1.z
  have HP1 := Lib.hid hp1
  have HB1 := Lib.hid hb1
  clear hp1 hb1
  generalize hG : w.heap.size = g at *
  have HG := Lib.hid hG
  go_wp2_with fail
  refine (newT_nil 0 4 _).mono ?_
  rintro e w' ⟨rfl, rfl⟩
  go_wp2_with fail
  refine (newT_no (g := g) 4 4 _ HP1.out 1 nn1.1 (by decide)).mono ?_
  rintro e w2 ⟨rfl, hp2, ht2⟩
  have HP2 := Lib.hid hp2
  have HB2 := Lib.hid (ht2.below (Nat.le_refl _) (Nat.le_refl _) HB1.out (by omega))
  have hz2 := hp2.z
  clear hp2 ht2 HP1 HB1 hz1
  go_wp2_with fail
  refine (newT_no (g := g) 0 0 _ HP2.out 1 nn1.2.1 (by decide)).mono ?_
  rintro e w3 ⟨rfl, hp3, ht3⟩
  have HP3 := Lib.hid hp3
  have HB3 := Lib.hid (ht3.below (Nat.le_refl _) (Nat.le_refl _) HB2.out (by omega))
  have hz3 := hp3.z
  clear hp3 ht3 HP2 HB2 hz2
  go_wp2_with fail
  refine (newT_no (g := g) 0 65 _ HP3.out 1 nn1.2.2 (by decide)).mono ?_
  rintro e w4 ⟨rfl, hp4, ht4⟩
  have HP4 := Lib.hid hp4
  have HB4 := Lib.hid (ht4.below (Nat.le_refl _) (Nat.le_refl _) HB3.out (by omega))
  have hz4 := hp4.z
  clear hp4 ht4 HP3 HB3 hz3
  go_wp2_with fail
  refine (newT_any (g := g) ((2 : Nat) : Int) ((64 : Nat) : Int) _ HP4.out).mono ?_
  rintro e w5 ⟨hp5, ht5, ⟨hne, _⟩ | ⟨_, h, r, rfl, hh, hr, hT⟩⟩
  · exact absurd nn2 hne
  rw [show newS po0 ((2 : Nat) : Int) ((64 : Nat) : Int) = po0.promS ((2 : Nat) : Int) ((64 : Nat) : Int) by unfold newS; rw [if_pos nn2]] at hp5
  have HP5 := Lib.hid hp5
  have HT5 := Lib.hid hT
  have HB5 := Lib.hid (ht5.below (Nat.le_refl _) (Nat.le_refl _) HB4.out (by omega))
  have hz5 := hp5.z
  clear hp5 ht5 HP4 HB4 hT
  go_wp2_with fail
  refine (newT_no (g := g) 2 4 _ HP5.out 24 nn3 (by decide)).mono ?_
  rintro e w6 ⟨rfl, hp6, ht6⟩
  have HD := Lib.hid (show Duo w g g h r 2 64 w6 (po0.promS ((2 : Nat) : Int) ((64 : Nat) : Int)) (ta0 2 64) from ⟨hp6, HT5.out.turnP ht6, joint_0 ok_0 2 64 (by omega) (by omega) (prom_0 2 64 (by omega) (by omega)), ok_prom ok_0 _ _, rfl, rfl, ht6.below (Nat.le_refl _) (Nat.le_refl _) HB5.out (by omega), Nat.le_refl _, by omega, by omega⟩)
  clear HP5 HT5 HB5 hp6 ht6 hz5 hz4 hh hr
  have HU := Lib.hid upto_0
  generalize po0.promS ((2 : Nat) : Int) ((64 : Nat) : Int) = S0 at *
  generalize ta0 2 64 = T0 at *
  go_wp2_with fail
  refine (map_any (-1) _ HD.out.p HD.out.t).mono ?_
  rintro e w7 ⟨rfl, hp7, hT7, ht7⟩
  obtain ⟨m1, m2, m3, m4⟩ := map_no (S := S0) (T := T0) (k := -1) (by simp [Ta.pB])
  rw [m3] at hp7
  rw [m4] at hT7
  rw [m1, m2]
  have HD7 := Lib.hid (show Duo w g g h r 2 64 w7 _ _ from ⟨hp7, hT7, HD.out.j, HD.out.k, HD.out.o, HD.out.n, ht7.below (Nat.le_refl _) HD.out.br HD.out.b (HD.out.size HG.out), Nat.le_refl _, HD.out.bh, HD.out.br⟩)
  clear m1 m2 m3 m4 hp7 hT7 ht7 HD
  go_wp2_with fail
  refine (unmap_any 5 _ HD7.out.p HD7.out.t).mono ?_
  rintro e w8 ⟨rfl, hp8, hT8, ht8⟩
  obtain ⟨m1, m2, m3⟩ := un_no (S := S0) (T := T0) (k := 5) (by have := mB_nat (T := T0) (i := 5) (by rw [HD7.out.n]; omega); rw [HU.out.fr 5 (by omega), if_neg (by omega)] at this; exact this)
  rw [m2] at hp8
  rw [m3] at hT8
  rw [m1]
  have HD8 := Lib.hid (show Duo w g g h r 2 64 w8 _ _ from ⟨hp8, hT8, HD7.out.j, HD7.out.k, HD7.out.o, HD7.out.n, ht8.below (Nat.le_refl _) HD7.out.br HD7.out.b (HD7.out.size HG.out), Nat.le_refl _, HD7.out.bh, HD7.out.br⟩)
  clear m1 m2 m3 hp8 hT8 ht8 HD7 hG
  go_wp2_with fail
  go_loopw [17] (fun i wr => ∃ (k : Nat) (S : Po) (T : Ta), k ≤ 64 ∧ i = .int .i64 k ∧ Hid (Duo w g g h r 2 64 wr S T) ∧ Hid (Upto k S T)) (fun i _ => 64 - (intOf i).toNat)
  case atStart => exact ⟨0, _, _, by omega, rfl, HD8, HU⟩
  case round =>
    clear HD8
    obtain ⟨k, S, T, hk, rfl, hD, hU⟩ := hrel
    by_cases hlt : k < 64
    · have hki : (k : Int) < 64 := by omega
      have hm := hD.out.mapLow HG.out (63 - k) (by omega) (by rw [hU.out.fr _ (by omega), if_neg (by omega)]; rfl) (16 + k) (by rw [hU.out.ow, if_neg (by omega)]; rfl) (by omega) (fun j h1 h2 => by rw [hU.out.ow, if_pos ⟨h1, h2⟩]; rfl)
      rw [show ((63 - k : Nat) : Int) = 63 - (k : Int) by omega] at hm
      unfold MapLow at hm
      rw [show ((16 + k : Nat) : Int) = 16 + (k : Int) by omega] at hm
      have HM := Lib.hid hm
      clear hm
      go_wp2_with (go_at_call 10; refine HM.out.mono ?_; rintro e w9 ⟨rfl, hfr, hd9⟩
                   have HU9 := Lib.hid (hU.out.next hlt hfr)
                   have HD9 := Lib.hid hd9
                   clear HM hfr hd9)
      go_roundw
      case rel => exact ⟨k + 1, _, _, by omega, by go_num, HD9, Lib.hid (by have := HU9.out; rw [show ((16 + k : Nat) : Int) = 16 + (k : Int) by omega] at this; exact this)⟩
      case measure => simp [intOf]; omega
    · obtain rfl : k = 64 := by omega
      clear hlt hk
      have hpr := promised_any 2 _ hD.out.p
      have hgot : S.got 2 = 64 := by
        have h1 := hD.out.j.pm
        rw [hD.out.o, hD.out.n] at h1
        have h2 : oB 2 = true := by decide
        unfold Po.got; rw [if_pos h2]
        show pos (S.prom 2) = 64
        rw [h1]; rfl
      rw [hgot] at hpr
      have hmp := mapped_any _ hD.out.t
      unfold Mapd at hmp
      rw [hD.out.n] at hmp
      rw [hU.out.all 64 (by omega)] at hmp
      have h9 : T.fr 9 = (70 : Nat) := by rw [hU.out.fr 9 (by omega), if_pos (by omega)]
      have hun := fun (W : World) (hb : Below wr.heap.size wr W) => (hD.out.keep HG.out hb).unmap HG.out 9 (by omega) 70 h9
      have hfn := free_rel1 (S := S) 70 (by omega) (by omega) (by rw [hU.out.ow, if_pos (by omega)] <;> omega)
      have hff := hU.out.free
      have HPR := Lib.hid hpr
      have HMP := Lib.hid hmp
      have HUN := Lib.hid hun
      have HFN := Lib.hid (show (S.rel1 70).freeN 256 = 177 by omega)
      clear hpr hgot hmp h9 hun hfn hff
      go_wp2_with (first
        | (go_at_call 12; refine HPR.out.mono ?_; rintro e w' ⟨rfl, rfl⟩)
        | (go_at_call 13; refine HMP.out.mono ?_; rintro e w9 ⟨A2, c2, rfl, _, hb9⟩; have HB9 := Lib.hid hb9; clear hb9)
        | (go_at_call 11; refine (HUN.out _ HB9.out).mono ?_; rintro e w10 ⟨rfl, hd10⟩; have HD10 := Lib.hid hd10; clear hd10)
        | (go_at_call 14; refine (free_any _ HD10.out.p).mono ?_; rintro e w' ⟨rfl, rfl⟩; rw [HFN.out])
        | (go_at_call 15; refine (known_any _).mono ?_; rintro e w11 ⟨rfl, hb11⟩; have HB11 := Lib.hid hb11; clear hb11))
      go_ret
      exact ⟨rfl, by rw [HG.out]; exact HD10.out.b.trans (HB11.out.mono (HD10.out.size HG.out))⟩
end Go.Proofs.Ytomdimplakmpeaa

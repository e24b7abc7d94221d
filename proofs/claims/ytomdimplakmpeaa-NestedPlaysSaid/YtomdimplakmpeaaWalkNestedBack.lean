/-
  innkeeperlaw6.NestedBack returns true: its walk.
-/
import Derived.Test.YtomdimplakmpeaaTo
import Derived.Test.YtomdimplakmpeaaRow
import Derived.Test.YtomdimplakmpeaaWi
import Derived.Outline
namespace Go.Proofs.Ytomdimplakmpeaa
open Go.RowKit
set_option linter.unusedSimpArgs false
set_option linter.unusedVariables false

/-- what a round of the laws' loops is told: the pool, the table, how they fit -/
structure Duo (w0 : World) (B g h r o n : Nat) (w : World) (S : Po) (T : Ta) : Prop where
  p : IsP w g S
  t : IsT w g h r T
  j : Joint S T
  k : S.Ok
  o : T.o = o
  n : T.n = n
  b : Below B w0 w
  bg : B ≤ g
  bh : B ≤ h
  br : B ≤ r
theorem Duo.size {w0 w : World} {B g h r o n : Nat} {S : Po} {T : Ta} (d : Duo w0 B g h r o n w S T) (hB : w0.heap.size = B) : B ≤ w.heap.size := by have := d.b.size; omega
theorem duo_0 {o n : Nat} {w w' : World} {g h r : Nat} (ho : o < 4) (hn : n ≤ 64) (hg : w.heap.size ≤ g) (hh : w.heap.size ≤ h) (hr : w.heap.size ≤ r) (hp : IsP w' g (po0.promS o n)) (ht : IsT w' g h r (ta0 o n)) (hb : Below w.heap.size w w') :
    Duo w w.heap.size g h r o n w' (po0.promS o n) (ta0 o n) :=
  ⟨hp, ht, joint_0 ok_0 o n ho hn (prom_0 o n ho hn), ok_prom ok_0 _ _, rfl, rfl, hb, hg, hh, hr⟩
/-- other memory was turned -/
theorem Duo.keep {w0 w w' : World} {B g h r o n : Nat} {S : Po} {T : Ta} (d : Duo w0 B g h r o n w S T) (hB : w0.heap.size = B) (hb : Below w.heap.size w w') : Duo w0 B g h r o n w' S T :=
  ⟨d.p.below hb, d.t.below hb, d.j, d.k, d.o, d.n, d.b.trans (hb.mono (d.size hB)), d.bg, d.bh, d.br⟩
section
variable {w0 w : World} {B g h r o n : Nat} {S : Po} {T : Ta}
/-- Map of a page that is there -/
def MapOk (w0 : World) (B g h r o n : Nat) (S : Po) (T : Ta) (q : Nat) (e : Ending) (w' : World) : Prop :=
  ∃ f : Nat, e = .returned (.tuple #[.int .i64 (f : Int), .int .i64 0]) ∧ 16 ≤ f ∧ f < 256 ∧ (mapT S T q).fr q = f ∧ (mapS S T q).own f = o ∧ Duo w0 B g h r o n w' (mapS S T q) (mapT S T q)
theorem Duo.map (d : Duo w0 B g h r o n w S T) (hB : w0.heap.size = B) (q : Nat) (hq : q < n) :
    Calls Try.prog 10 #[.pointer (some ⟨h, 0, none⟩), .int .i64 q] w (MapOk w0 B g h r o n S T q) := by
  obtain ⟨e1, f, e2, e3, l1, l2, l3, _, _, hj, hk⟩ := map_ok d.j d.p.good d.k d.t.good q (by rw [d.n]; exact hq)
  refine (map_any (q : Int) w d.p d.t).mono ?_
  rintro e w' ⟨rfl, hp, ht, hu⟩
  obtain ⟨n1, n2⟩ := mapT_n S T q
  exact ⟨f, by rw [e1, e2], l1, l2, e3, by rw [l3, d.o], hp, ht, hj, hk, n2.trans d.o, n1.trans d.n, hu.below d.bg d.br d.b (d.size hB), d.bg, d.bh, d.br⟩
/-- Map of a page that has no frame -/
def MapNew (w0 : World) (B g h r o n : Nat) (S : Po) (T : Ta) (q : Nat) (e : Ending) (w' : World) : Prop :=
  ∃ f : Nat, e = .returned (.tuple #[.int .i64 (f : Int), .int .i64 0]) ∧ 16 ≤ f ∧ f < 256 ∧ neB (S.own f) = false ∧ Duo w0 B g h r o n w' (S.tk f o) (T.put q f)
theorem Duo.mapNew (d : Duo w0 B g h r o n w S T) (hB : w0.heap.size = B) (q : Nat) (hq : q < n) (h0 : neB (T.fr q) = false) :
    Calls Try.prog 10 #[.pointer (some ⟨h, 0, none⟩), .int .i64 q] w (MapNew w0 B g h r o n S T q) := by
  obtain ⟨e1, f, e2, e3, e4, l1, l2, l3, _, hj⟩ := map_new d.j d.p.good d.k d.t.good q (by rw [d.n]; exact hq) h0
  obtain ⟨_, _, _, _, _, _, _, _, _, _, hk⟩ := map_ok d.j d.p.good d.k d.t.good q (by rw [d.n]; exact hq)
  refine (map_any (q : Int) w d.p d.t).mono ?_
  rintro e w' ⟨rfl, hp, ht, hu⟩
  rw [e3, d.o] at hp
  rw [e4] at ht
  rw [e3, d.o] at hk
  rw [d.o] at hj
  exact ⟨f, by rw [e1, e2], l1, l2, l3, hp, ht, hj, hk, d.o, d.n, hu.below d.bg d.br d.b (d.size hB), d.bg, d.bh, d.br⟩
/-- Unmap of a page that is mapped -/
def UnOk (w0 : World) (B g h r o n : Nat) (S : Po) (T : Ta) (q f : Nat) (e : Ending) (w' : World) : Prop :=
  e = .returned (.int .i64 0) ∧ Duo w0 B g h r o n w' (S.rel1 f) (T.put q (-1))
theorem Duo.unmap (d : Duo w0 B g h r o n w S T) (hB : w0.heap.size = B) (q : Nat) (hq : q < n) (f : Nat) (h0 : T.fr q = f) :
    Calls Try.prog 11 #[.pointer (some ⟨h, 0, none⟩), .int .i64 q] w (UnOk w0 B g h r o n S T q f) := by
  obtain ⟨e1, f', e2, l1, l2, l3, e3, e4, hj, hk⟩ := un_ok d.j d.k d.t.good q (by rw [d.n]; exact hq) (by rw [h0]; omega)
  obtain rfl : f' = f := by omega
  refine (unmap_any (q : Int) w d.p d.t).mono ?_
  rintro e w' ⟨rfl, hp, ht, hu⟩
  rw [e3] at hp
  rw [e4] at ht
  exact ⟨by rw [e1], hp, ht, hj, hk, d.o, d.n, hu.below d.bg d.br d.b (d.size hB), d.bg, d.bh, d.br⟩
/-- Put of a byte that is there -/
def PutOk (w0 : World) (B g h r o n : Nat) (S : Po) (T : Ta) (f a : Nat) (x : Int) (e : Ending) (w' : World) : Prop :=
  e = .returned (.bool true) ∧ Duo w0 B g h r o n w' (S.put f a x) T
theorem Duo.putB (d : Duo w0 B g h r o n w S T) (hB : w0.heap.size = B) (f a : Nat) (x : Int) (hx : 0 ≤ x ∧ x < 256) (hf : f < 256) (h0 : S.own f = o) (ha : a < 64) :
    Calls Try.prog 25 #[.pointer (some ⟨g, 0, none⟩), .int .i64 f, .int .i64 a, .int .u8 x] w (PutOk w0 B g h r o n S T f a x) := by
  refine (put_any (f : Int) (a : Int) x hx w d.p (bB_of hf (by omega) ha)).mono ?_
  rintro e w' ⟨rfl, hp, hu⟩
  rw [Int.toNat_natCast, Int.toNat_natCast] at hp
  exact ⟨rfl, hp, d.t.turnP hu, d.j.put f a x, ok_put d.k f a x, d.o, d.n, hu.below d.bg d.bg d.b (d.size hB), d.bg, d.bh, d.br⟩
end
set_option maxRecDepth 100000 in
set_option maxHeartbeats 4000000 in
theorem nestedBack_walk (A0 : Option Addr) (len0 cap0 : Nat) (z0 : List Int) (a1 : Int) (w : World) (w0 : IsRow .i64 w A0 len0 cap0 z0) (w1 : (Lit.int .u8 a1).wf = true) :
    Calls Try.prog 7 #[.slice A0 len0 cap0, .int .u8 a1] w fun e w' => e = .returned (.bool true) ∧ Below w.heap.size w w' := by
  obtain ⟨hl0, hc0, hA0, l, hlen, hwf, hrd⟩ := w0.rd
  have HV := Lib.hid (u8_of_wf w1)
  have HRD := Lib.hid hrd
  have HWF := Lib.hid hwf
  have HLEN := Lib.hid hlen
  unfold maxLen at hc0
  clear hrd hwf w0 w1 hA0 hlen
  go_enter Try.func7, Try.ntmps7
  go_wp2_with fail
  refine (fresh_any 3 20 (by omega) (by omega) (by omega) _).mono ?_
  rintro e w1 ⟨g, h, r, rfl, hg, hh, hr, hp1, hT1, hb1⟩
  have HD := Lib.hid (duo_0 (by omega) (by omega) hg hh hr hp1 hT1 hb1)
  clear hp1 hT1 hb1 hg hh hr
  generalize hG : w.heap.size = B at *
  have HB := Lib.hid hG
  go_wp2_with fail
  go_loopw [7] (fun i wr => ∃ (k : Nat) (S : Po) (T : Ta), k ≤ 30 ∧ k ≤ len0 ∧ i = .int .i64 k ∧ Hid (Duo w B g h r 3 20 wr S T)) (fun i _ => 30 - (intOf i).toNat)
  case atStart => exact ⟨0, _, _, by omega, by omega, rfl, HD⟩
  case round =>
    clear HD
    obtain ⟨k, S, T, hk, hkn, rfl, hD⟩ := hrel
    by_cases hlt : k < len0 ∧ k < 30
    · obtain ⟨h1, h2⟩ := hlt
      have hkl : k < l.length := by have := HLEN.out; omega
      obtain ⟨b, off, rfl, hbg, hc⟩ := HRD.out (by rw [List.length_map]; omega)
      have hck := (hD.out.b.cell (p := ⟨b, off + k, none⟩) (by show b < B; omega)).trans (hc k (.int .i64 l[k]) (by simp [List.getElem?_eq_getElem hkl]))
      obtain ⟨b0, b1⟩ := i64_of_wf (HWF.out _ (List.getElem_mem hkl))
      have hwd := within_book l[k] 19 b0 b1 (by omega) (by omega)
      obtain ⟨y0, y1⟩ := wdV_bd l[k] 0 19 (by omega)
      generalize wdV l[k] 0 19 = y at *
      generalize l[k] = x at *
      obtain ⟨q, rfl⟩ := Int.eq_ofNat_of_zero_le y0
      have HWD := Lib.hid hwd
      have hq20 : q < 20 := by omega
      have HQ := Lib.hid hq20
      have hle1 : (k : Int) < (len0 : Int) := by omega
      have HM1 := Lib.hid (hD.out.map HB.out q hq20)
      clear hc hwd hkl y0 y1 b0 b1 hq20 hG
      go_wp2_with (first
        | (go_at_call 16; refine (HWD.out _).mono ?_; rintro e w' ⟨rfl, rfl⟩)
        | (go_at_call 10; refine HM1.out.mono ?_; rintro e w2 ⟨f, rfl, f16, f256, hfr, hown, hd2⟩
           have HF := Lib.hid (And.intro f16 f256)
           have HFR := Lib.hid hfr
           have HOW := Lib.hid hown
           have HD2 := Lib.hid hd2
           clear HM1 f16 f256 hfr hown hd2))
      have HP2 := Lib.hid (HD2.out.putB HB.out f k _ HV.out HF.out.2 HOW.out (by omega))
      have hle := freeN_le ((mapS S T q).put f k a1) 256
      generalize mapS S T q = S2 at *
      generalize mapT S T q = T2 at *
      generalize hN : (S2.put f k a1).freeN 256 = N at *
      have HN := Lib.hid hN
      clear hN
      go_wp2_with (first
        | (go_at_call 25; refine HP2.out.mono ?_; rintro e w3 ⟨rfl, hd3⟩
           have HFA := Lib.hid (free_any _ hd3.p)
           have HU3 := Lib.hid (hd3.unmap HB.out q HQ.out f HFR.out)
           have HD3 := Lib.hid hd3
           clear HP2 hd3)
        | (go_at_call 14; refine HFA.out.mono ?_; rintro e w' ⟨rfl, rfl⟩; rw [HN.out]; clear HFA)
        | (go_at_call 11; refine HU3.out.mono ?_; rintro e w4 ⟨rfl, hd4⟩
           have HFB := Lib.hid (free_any _ hd4.p)
           have HM4 := Lib.hid (hd4.mapNew HB.out q HQ.out (by show neB (upd T2.fr q (-1) q) = false; rw [upd_same]; rfl))
           have HD4 := Lib.hid hd4
           clear HU3 hd4)
        | (go_at_call 14; refine HFB.out.mono ?_; rintro e w' ⟨rfl, rfl⟩; rw [free_rel1 f HF.out.1 HF.out.2 (show 0 ≤ (S2.put f k a1).own f by show 0 ≤ S2.own f; rw [HOW.out]; omega), HN.out]; clear HFB))
      have hk0 : ((N + 1 : Nat) : Int) = (N : Int) + 1 := by omega
      go_wp2_with (first
        | (go_at_call 10; refine HM4.out.mono ?_; rintro e w5 ⟨f2, rfl, g16, g256, hn5, hd5⟩
           have hown5 : ((((S2.put f k a1).rel1 f).tk f2 (3 : Nat))).own f2 = (3 : Nat) := upd_same _ _ _
           have hbb := bB_of g256 (by rw [hown5]; omega) (show k < 64 by omega)
           have hby := byte_any (f2 : Int) (k : Int) _ hd5.p
           have hbt : ((((S2.put f k a1).rel1 f).tk f2 (3 : Nat))).bt (f2 : Int) (k : Int) = 0 := by
             unfold Po.bt; rw [if_pos hbb, Int.toNat_natCast]
             show upd _ f2 (fun _ => 0) f2 _ = 0
             rw [upd_same]
           rw [hbb, hbt] at hby
           have hft := free_tk (S := (S2.put f k a1).rel1 f) f2 3 g16 g256 hn5
           rw [free_rel1 f HF.out.1 HF.out.2 (show 0 ≤ (S2.put f k a1).own f by show 0 ≤ S2.own f; rw [HOW.out]; omega), HN.out] at hft
           have hfc := free_any _ hd5.p
           rw [show ((((S2.put f k a1).rel1 f).tk f2 (3 : Nat))).freeN 256 = N by omega] at hfc
           have HBY := Lib.hid hby
           have HFC := Lib.hid hfc
           have HD5 := Lib.hid hd5
           clear HM4 hown5 hbb hby hbt hft hfc hd5 g16 g256 hn5)
        | (go_at_call 26; refine HBY.out.mono ?_; rintro e w' ⟨rfl, rfl⟩; clear HBY)
        | (go_at_call 14; refine HFC.out.mono ?_; rintro e w' ⟨rfl, rfl⟩; clear HFC))
      go_roundw
      case rel => exact ⟨k + 1, _, _, by omega, by omega, by go_num, HD5⟩
      case measure => simp [intOf]; omega
    · have hlt2 : (decide ((k : Int) < (len0 : Int)) && decide ((k : Int) < 30)) = false := by
        rw [Bool.eq_false_iff]; simp; omega
      have hcnt := hD.out.j.cnt
      rw [hD.out.o, hD.out.n] at hcnt
      have hh1 := held_any ((3 : Nat) : Int) _ hD.out.p
      have hm1 := fun (W : World) (hb : Below wr.heap.size wr W) => mapped_any W (hD.out.t.below hb)
      unfold Held at hh1
      unfold Mapd at hm1
      rw [hD.out.n] at hm1
      rw [hcnt] at hh1
      have hml := mapL_le T 20
      generalize (T.mapL 20).length = M at *
      have HH1 := Lib.hid hh1
      have HM1 := Lib.hid hm1
      clear hh1 hm1 hcnt
      rcases (show len0 ≤ k ∨ (k < len0 ∧ 30 ≤ k) by omega) with hex | ⟨hex, hex2⟩
      all_goals
        clear hlt hlt2
        go_wp2_with (first
          | (go_at_call 22; refine HH1.out.mono ?_; rintro e w2 ⟨A, c, rfl, _, hb2⟩; have HB2 := Lib.hid hb2; clear hb2)
          | (go_at_call 13; refine (HM1.out _ HB2.out).mono ?_; rintro e w3 ⟨A2, c2, rfl, _, hb3⟩; have HB3 := Lib.hid (HB2.out.trans (hb3.mono HB2.out.size)); clear hb3)
          | (go_at_call 15; refine (known_any _).mono ?_; rintro e w4 ⟨rfl, hb4⟩; have HB4 := Lib.hid (HB3.out.trans (hb4.mono HB3.out.size)); clear hb4))
        go_ret
        exact ⟨rfl, by rw [HB.out]; exact hD.out.b.trans (HB4.out.mono (hD.out.size HB.out))⟩
end Go.Proofs.Ytomdimplakmpeaa

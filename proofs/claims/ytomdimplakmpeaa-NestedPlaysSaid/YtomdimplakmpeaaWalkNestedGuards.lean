/-
  innkeeperlaw6.NestedGuards returns true: its walk.
-/
import Derived.Test.YtomdimplakmpeaaTo
import Derived.Test.YtomdimplakmpeaaRowA
import Derived.Test.YtomdimplakmpeaaWi
import Derived.Outline
namespace Go.Proofs.Ytomdimplakmpeaa
open Go.RowKit
set_option linter.unusedSimpArgs false
set_option linter.unusedVariables false

/-- what is guarded behind Map, Unmap, Guard, Unguard -/
theorem gd_map {S : Po} {T : Ta} {q : Nat} (hq : q < T.n) : (mapT S T q).gdV q = T.gdV q := by
  rcases map_cases S T q with ⟨_, _, _, _, e⟩ | ⟨_, _, _, _, _, _, _, _, _, e⟩ | ⟨i, hi, _, _, hm, h0, _, _, _, e⟩
  · rw [e]
  · rw [e]
  · obtain rfl : q = i := by omega
    rw [e]
    split
    · unfold Ta.gdV
      rw [hm, Bool.false_and, Int.toNat_natCast]
      show (_ && upd T.gd q false q) = false
      rw [upd_same, Bool.and_false]
    · rfl
theorem gd_no {T : Ta} {k : Int} (h : T.mB k = false) : T.gdV k = false := by unfold Ta.gdV; rw [h, Bool.false_and]
theorem gd_un {T : Ta} {q : Nat} (hq : q < T.n) : (unT T q).gdV q = false := by
  unfold unT
  cases hm : T.mB (q : Int)
  · simp [gd_no hm]
  · simp only [if_true, Int.toNat_natCast]
    unfold Ta.gdV
    show (_ && upd T.gd q false _) = false
    rw [Int.toNat_natCast, upd_same, Bool.and_false]
theorem gd_mark {T : Ta} {q : Nat} (b : Bool) : (T.markS q b).gdV q = (T.mB q && b) := by
  unfold Ta.markS
  cases hm : T.mB (q : Int)
  · simp [gd_no hm]
  · simp only [if_true, Int.toNat_natCast, Bool.true_and]
    unfold Ta.gdV
    show (T.mB q && upd T.gd q b _) = b
    rw [Int.toNat_natCast, upd_same, hm, Bool.true_and]
theorem markS_n (T : Ta) (k : Int) (b : Bool) : (T.markS k b).n = T.n ∧ (T.markS k b).o = T.o := by unfold Ta.markS; split <;> exact ⟨rfl, rfl⟩
/-- a pool and a table, whatever is in them -/
structure Any (w0 : World) (B g h r n : Nat) (w : World) (S : Po) (T : Ta) : Prop where
  p : IsP w g S
  t : IsT w g h r T
  n : T.n = n
  b : Below B w0 w
  bg : B ≤ g
  bh : B ≤ h
  br : B ≤ r
section
variable {w0 w : World} {B g h r n : Nat} {S : Po} {T : Ta}
theorem Any.size (d : Any w0 B g h r n w S T) (hB : w0.heap.size = B) : B ≤ w.heap.size := by have := d.b.size; omega
theorem Any.map (d : Any w0 B g h r n w S T) (hB : w0.heap.size = B) (q : Nat) :
    Calls Try.prog 10 #[.pointer (some ⟨h, 0, none⟩), .int .i64 q] w fun e w' => ∃ f er : Int, e = .returned (.tuple #[.int .i64 f, .int .i64 er]) ∧ Any w0 B g h r n w' (mapS S T q) (mapT S T q) := by
  refine (map_any (q : Int) w d.p d.t).mono ?_
  rintro e w' ⟨rfl, hp, ht, hu⟩
  exact ⟨_, _, rfl, hp, ht, (mapT_n S T q).1.trans d.n, hu.below d.bg d.br d.b (d.size hB), d.bg, d.bh, d.br⟩
theorem Any.unmap (d : Any w0 B g h r n w S T) (hB : w0.heap.size = B) (q : Nat) :
    Calls Try.prog 11 #[.pointer (some ⟨h, 0, none⟩), .int .i64 q] w fun e w' => ∃ er : Int, e = .returned (.int .i64 er) ∧ Any w0 B g h r n w' (unS S T q) (unT T q) := by
  refine (unmap_any (q : Int) w d.p d.t).mono ?_
  rintro e w' ⟨rfl, hp, ht, hu⟩
  exact ⟨_, rfl, hp, ht, (unT_n T q).1.trans d.n, hu.below d.bg d.br d.b (d.size hB), d.bg, d.bh, d.br⟩
theorem Any.marked (d : Any w0 B g h r n w S T) (hB : w0.heap.size = B) (q : Nat) (b : Bool) {e : Ending} {w' : World} (hm : Marked T g h r q b w e w') : e = .returned (.bool (T.mB q)) ∧ Any w0 B g h r n w' S (T.markS q b) := by
  obtain ⟨rfl, ht, hu⟩ := hm
  exact ⟨rfl, d.p.keep (hu.block g d.p.z d.t.gr d.t.gr), ht, (markS_n T q b).1.trans d.n, hu.below d.br d.br d.b (d.size hB), d.bg, d.bh, d.br⟩
end
set_option maxRecDepth 100000 in
set_option maxHeartbeats 4000000 in
theorem nestedGuards_walk (A0 : Option Addr) (len0 cap0 : Nat) (L0 : List Ak) (w : World) (w0 : RowA w A0 len0 cap0 L0) :
    Calls Try.prog 6 #[.slice A0 len0 cap0] w fun e w' => e = .returned (.bool true) ∧ Below w.heap.size w w' := by
  obtain ⟨hlen, hl0, hc0, hA0, hrd, hin⟩ := w0
  have HRD := Lib.hid hrd
  have HIN := Lib.hid hin
  have HLEN := Lib.hid hlen
  unfold maxLen at hc0
  clear hrd hin hA0 hlen
  go_enter Try.func6, Try.ntmps6
  go_wp2_with fail
  refine (fresh_any 1 12 (by omega) (by omega) (by omega) _).mono ?_
  rintro e w1 ⟨g, h, r, rfl, hg, hh, hr, hp1, hT1, hb1⟩
  have HD := Lib.hid (show Any w w.heap.size g h r 12 w1 _ _ from ⟨hp1, hT1, rfl, hb1, hg, hh, hr⟩)
  clear hp1 hT1 hb1 hg hh hr
  generalize hG : w.heap.size = B at *
  have HB := Lib.hid hG
  go_wp2_with fail
  go_loopw [5] (fun i wr => ∃ (k : Nat) (S : Po) (T : Ta), k ≤ 60 ∧ k ≤ len0 ∧ i = .int .i64 k ∧ Hid (Any w B g h r 12 wr S T)) (fun i _ => 60 - (intOf i).toNat)
  case atStart => exact ⟨0, _, _, by omega, by omega, rfl, HD⟩
  case round =>
    clear HD
    obtain ⟨k, S, T, hk, hkn, rfl, hD⟩ := hrel
    by_cases hlt : k < len0 ∧ k < 60
    · obtain ⟨h1, h2⟩ := hlt
      have hkl : k < L0.length := by have := HLEN.out; omega
      obtain ⟨b, off, rfl, hbg, hc⟩ := HRD.out (by omega)
      obtain ⟨hca, hcb⟩ := hc k hkl
      have hck := (hD.out.b.cell (p := ⟨b, off + k * 2, none⟩) (by show b < B; omega)).trans hca
      have hcp := (hD.out.b.cell (p := ⟨b, off + k * 2 + 1, none⟩) (by show b < B; omega)).trans hcb
      obtain ⟨b0, b1⟩ := i64_of_wf (HIN.out _ (List.getElem_mem hkl)).p
      have hwd := within_book (L0[k]).p 11 b0 b1 (by omega) (by omega)
      obtain ⟨y0, y1⟩ := wdV_bd (L0[k]).p 0 11 (by omega)
      generalize wdV (L0[k]).p 0 11 = y at *
      generalize (L0[k]).p = x at *
      generalize (L0[k]).k = kd at *
      obtain ⟨q, rfl⟩ := Int.eq_ofNat_of_zero_le y0
      have HWD := Lib.hid hwd
      have hq12 : q < T.n := by rw [hD.out.n]; omega
      have HQ := Lib.hid hq12
      have hle1 : (k : Int) < (len0 : Int) := by omega
      have hfr := frame_any (q : Int) _ hD.out.t
      generalize T.frV (q : Int) = fv at *
      clear hc hca hcb hwd hkl y0 y1 b0 b1 hq12 hG
      have hcs : (T.mB (q : Int) = false ∧ T.gdV (q : Int) = false) ∨ (T.mB (q : Int) = true ∧ T.gdV (q : Int) = false) ∨ (T.mB (q : Int) = true ∧ T.gdV (q : Int) = true) := by
        cases hm : T.mB (q : Int)
        · exact .inl ⟨rfl, gd_no hm⟩
        · cases T.gdV (q : Int)
          · exact .inr (.inl ⟨rfl, rfl⟩)
          · exact .inr (.inr ⟨rfl, rfl⟩)
      by_cases k1 : kd = 1
      · subst k1
        have hgd := guarded_any (q : Int) _ hD.out.t
        have hgm := gd_map (S := S) HQ.out
        have HMP := Lib.hid (hD.out.map HB.out q)
        rcases hcs with ⟨hm, hx⟩ | ⟨hm, hx⟩ | ⟨hm, hx⟩
        all_goals
          rw [hm] at hfr
          rw [hx] at hgd hgm
          have HFR := Lib.hid hfr
          have HGD := Lib.hid hgd
          have HGM := Lib.hid hgm
          clear hfr hgd hgm hm hx
          go_wp2_with (first
            | (go_at_call 16; refine (HWD.out _).mono ?_; rintro e w' ⟨rfl, rfl⟩)
            | (go_at_call 23; refine HFR.out.mono ?_; rintro e w' ⟨rfl, rfl⟩)
            | (go_at_call 24; refine HGD.out.mono ?_; rintro e w' ⟨rfl, rfl⟩; clear HGD)
            | (go_at_call 10; refine HMP.out.mono ?_; rintro e w2 ⟨f, er, rfl, hd2⟩
               have hg2 := guarded_any (q : Int) _ hd2.t
               rw [HGM.out] at hg2
               have HG2 := Lib.hid hg2
               have HD2 := Lib.hid hd2
               clear HMP hd2 hg2)
            | (go_at_call 24; refine HG2.out.mono ?_; rintro e w' ⟨rfl, rfl⟩; clear HG2))
          go_roundw
          case rel => exact ⟨k + 1, _, _, by omega, by omega, by go_num, HD2⟩
          case measure => simp [intOf]; omega
      · have k1b : (kd == 1) = false := by simpa using k1
        by_cases k2 : kd = 2
        · subst k2
          have hgm := gd_un HQ.out
          have HMP := Lib.hid (hD.out.unmap HB.out q)
          have HGM := Lib.hid hgm
          generalize T.mB (q : Int) = m at *
          have HFR := Lib.hid hfr
          clear hfr hgm hcs k1
          go_wp2_with (first
            | (go_at_call 16; refine (HWD.out _).mono ?_; rintro e w' ⟨rfl, rfl⟩)
            | (go_at_call 23; refine HFR.out.mono ?_; rintro e w' ⟨rfl, rfl⟩)
            | (go_at_call 11; refine HMP.out.mono ?_; rintro e w2 ⟨er, rfl, hd2⟩
               have hg2 := guarded_any (q : Int) _ hd2.t
               rw [HGM.out] at hg2
               have HG2 := Lib.hid hg2
               have HD2 := Lib.hid hd2
               clear HMP hd2 hg2)
            | (go_at_call 24; refine HG2.out.mono ?_; rintro e w' ⟨rfl, rfl⟩; clear HG2))
          go_roundw
          case rel => exact ⟨k + 1, _, _, by omega, by omega, by go_num, HD2⟩
          case measure => simp [intOf]; omega
        · have k2b : (kd == 2) = false := by simpa using k2
          by_cases k3 : kd = 3
          · subst k3
            have hmk := guard_any (q : Int) _ hD.out.t
            have hgm := gd_mark (T := T) (q := q) true
            have hmt : ∀ e w', Marked T g h r (q : Int) true wr e w' → e = .returned (.bool (T.mB (q : Int))) ∧ Any w B g h r 12 w' S (T.markS q true) := fun e w' => hD.out.marked HB.out q true
            cases hm : T.mB (q : Int)
            all_goals
              rw [hm] at hfr hgm hmt
              have HFR := Lib.hid hfr
              have HGM := Lib.hid hgm
              have HMT := Lib.hid hmt
              have HMK := Lib.hid hmk
              clear hfr hgm hmt hmk hm hcs k1 k2
              go_wp2_with (first
                | (go_at_call 16; refine (HWD.out _).mono ?_; rintro e w' ⟨rfl, rfl⟩)
                | (go_at_call 23; refine HFR.out.mono ?_; rintro e w' ⟨rfl, rfl⟩)
                | (go_at_call 19; refine HMK.out.mono ?_; intro e w2 hmd; obtain ⟨rfl, hd2⟩ := HMT.out e w2 hmd
                   have hg2 := guarded_any (q : Int) _ hd2.t
                   rw [HGM.out] at hg2
                   have HG2 := Lib.hid hg2
                   have HD2 := Lib.hid hd2
                   clear HMK HMT hmd hd2 hg2)
                | (go_at_call 24; refine HG2.out.mono ?_; rintro e w' ⟨rfl, rfl⟩; clear HG2))
              go_roundw
              case rel => exact ⟨k + 1, _, _, by omega, by omega, by go_num, HD2⟩
              case measure => simp [intOf]; omega
          · have k3b : (kd == 3) = false := by simpa using k3
            have hmk := unguard_any (q : Int) _ hD.out.t
            have hgm := gd_mark (T := T) (q := q) false
            have hmt : ∀ e w', Marked T g h r (q : Int) false wr e w' → e = .returned (.bool (T.mB (q : Int))) ∧ Any w B g h r 12 w' S (T.markS q false) := fun e w' => hD.out.marked HB.out q false
            cases hm : T.mB (q : Int)
            all_goals
              rw [hm] at hfr hgm hmt
              have HFR := Lib.hid hfr
              have HGM := Lib.hid hgm
              have HMT := Lib.hid hmt
              have HMK := Lib.hid hmk
              clear hfr hgm hmt hmk hm hcs k1 k2 k3
              go_wp2_with (first
                | (go_at_call 16; refine (HWD.out _).mono ?_; rintro e w' ⟨rfl, rfl⟩)
                | (go_at_call 23; refine HFR.out.mono ?_; rintro e w' ⟨rfl, rfl⟩)
                | (go_at_call 20; refine HMK.out.mono ?_; intro e w2 hmd; obtain ⟨rfl, hd2⟩ := HMT.out e w2 hmd
                   have hg2 := guarded_any (q : Int) _ hd2.t
                   rw [HGM.out] at hg2
                   have HG2 := Lib.hid hg2
                   have HD2 := Lib.hid hd2
                   clear HMK HMT hmd hd2 hg2)
                | (go_at_call 24; refine HG2.out.mono ?_; rintro e w' ⟨rfl, rfl⟩; clear HG2))
              go_roundw
              case rel => exact ⟨k + 1, _, _, by omega, by omega, by go_num, HD2⟩
              case measure => simp [intOf]; omega
    · have hlt2 : (decide ((k : Int) < (len0 : Int)) && decide ((k : Int) < 60)) = false := by
        rw [Bool.eq_false_iff]; simp; omega
      rcases (show len0 ≤ k ∨ (k < len0 ∧ 60 ≤ k) by omega) with hex | ⟨hex, hex2⟩
      all_goals
        clear hlt hlt2
        go_wp2_with (go_at_call 15; refine (known_any _).mono ?_; rintro e w4 ⟨rfl, hb4⟩; have HB4 := Lib.hid hb4; clear hb4)
        go_ret
        exact ⟨rfl, by rw [HB.out]; exact hD.out.b.trans (HB4.out.mono (hD.out.size HB.out))⟩
end Go.Proofs.Ytomdimplakmpeaa

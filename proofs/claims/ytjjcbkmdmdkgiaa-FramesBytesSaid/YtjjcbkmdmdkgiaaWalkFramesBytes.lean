/-
  innkeeperlaw5.FramesBytes returns true: its walk.
-/
import Derived.Test.YtjjcbkmdmdkgiaaWalkFramesLowest
namespace Go.Proofs.Ytjjcbkmdmdkgiaa
open Go.RowKit
set_option linter.unusedSimpArgs false
set_option linter.unusedVariables false

theorem take_bytes {S : Po} (h : ∀ f a, S.byte f a = 0) (o : Int) : ∀ f a, (S.takeS o).byte f a = 0 := fun f a => by
  unfold Po.takeS
  split
  · show upd S.byte _ _ f a = 0
    by_cases e : f = S.takeF o
    · subst e; simp
    · rw [upd_other _ _ _ _ e]; exact h f a
  · exact h f a
theorem Low.put {S : Po} {o n : Nat} {P : Nat → Bool} (h : Low S o n P) (f a : Nat) (x : Int) : Low (S.put f a x) o n P := ⟨h.o4, h.pm, h.ow, h.rg⟩
theorem Low.cnt {S : Po} {o n m : Nat} {P : Nat → Bool} (h : Low S o n P) (hm : m ≤ 64) (hP : ∀ f, P f = decide (16 ≤ f ∧ f < 16 + m)) : (S.heldL o 256).length = m := by
  rw [h.count hm hP 256 (by omega)]; omega
/-- the law's row of bytes: what the pool holds in its first eight frames -/
def Want (w : World) (G : Nat) (S : Po) : Prop := (∀ k, k < 512 → w.cell? ⟨G, k, none⟩ = some (.int .u8 (S.byte (16 + k / 64) (k % 64)))) ∧ ∀ i, w.frozen? ⟨G, i, none⟩ = false
theorem zeroW : (Try.prog.info? 51).map (fun i => (i.zero, i.size)) = some (some (.agg (zc 51)), 512) := by kernel_rfl
theorem zcW : (zc 51).toList = reps 512 [.int .u8 0] := by
  have h : eats 512 [.int .u8 0] (zc 51).toList = some [] := by kernel_rfl
  rw [eats_eq h]; simp
theorem Want.new {S : Po} (h : ∀ f a, S.byte f a = 0) (w : World) : Want (w.alloc (.cells (zc 51) 51)) w.heap.size S := by
  refine ⟨fun k hk => ?_, fun i => World.frozen?_alloc_new _ _ _ _⟩
  rw [World.cell?_alloc_new, ← Array.getElem?_toList, zcW, reps_one, List.getElem?_replicate, if_pos hk, h]
theorem Want.keep {w w' : World} {G : Nat} {S : Po} (h : Want w G S) (he : w'.heap[G]? = w.heap[G]?) : Want w' G S :=
  ⟨fun k hk => by have := h.1 k hk; simp only [World.cell?, he] at this ⊢; exact this, fun i => by have := h.2 i; simp only [World.frozen?, he] at this ⊢; exact this⟩
theorem Want.put {w : World} {G : Nat} {S : Po} (h : Want w G S) (q : Nat) (hq : q < 512) (x : Int) : Want (w.setCell ⟨G, q, none⟩ (.int .u8 x)) G (S.put (16 + q / 64) (q % 64) x) := by
  refine ⟨fun k hk => ?_, fun i => by rw [World.frozen?_setCell]; exact h.2 i⟩
  by_cases e : k = q
  · subst e; rw [World.cell?_setCell_same _ _ _ (h.1 k hk)]; simp [Po.put]
  · rw [World.cell?_setCell_other _ _ _ _ (by simp <;> omega), h.1 k hk]
    congr 2
    show _ = upd S.byte (16 + q / 64) (upd (S.byte (16 + q / 64)) (q % 64) x) (16 + k / 64) (k % 64)
    by_cases e1 : k / 64 = q / 64
    · rw [e1, upd_same, upd_other _ _ _ _ (by omega)]
    · rw [upd_other _ _ _ _ (by omega)]

/-- what Byte tells behind the frame 16 + gi was given back -/
theorem byte_gone {S : Po} {P : Nat → Bool} {o n : Nat} {f : Nat} (h : Low (S.rel1 f) o n P) (k a : Nat) (hk : k < 256) (ha : a < 64) (hP : P k = false) : (S.rel1 f).bB (k : Int) (a : Int) = false ∧ (S.rel1 f).bt (k : Int) (a : Int) = 0 := by
  have e : (S.rel1 f).bB (k : Int) (a : Int) = false := by unfold Po.bB; rw [h.hB k hk, hP]; rfl
  exact ⟨e, by unfold Po.bt; rw [if_neg (by rw [e]; decide)]⟩
theorem byte_here {S : Po} {P : Nat → Bool} {o n : Nat} {f : Nat} (h : Low (S.rel1 f) o n P) (k a : Nat) (hk : k < 256) (ha : a < 64) (hP : P k = true) (hf : k ≠ f) : (S.rel1 f).bB (k : Int) (a : Int) = true ∧ (S.rel1 f).bt (k : Int) (a : Int) = S.byte k a := by
  have e2 : aB (a : Int) = true := by simp [aB]; omega
  have e : (S.rel1 f).bB (k : Int) (a : Int) = true := by unfold Po.bB; rw [h.hB k hk, hP, e2]; rfl
  refine ⟨e, ?_⟩
  unfold Po.bt
  rw [if_pos e, Int.toNat_natCast, Int.toNat_natCast]
  show upd S.byte f _ k a = _
  rw [upd_other _ _ _ _ hf]

set_option maxRecDepth 100000 in
set_option maxHeartbeats 8000000 in
theorem framesBytes_walk (A0 : Option Addr) (len0 cap0 : Nat) (z0 : List Int) (A1 : Option Addr) (len1 cap1 : Nat) (z1 : List Int) (a2 : Int) (w : World) (w0 : IsRow .i64 w A0 len0 cap0 z0) (w1 : IsRow .u8 w A1 len1 cap1 z1) (w2 : (Lit.int .i64 a2).wf = true) :
    Calls Try.prog 6 #[.slice A0 len0 cap0, .slice A1 len1 cap1, .int .i64 a2] w fun e w' => e = .returned (.bool true) ∧ Below w.heap.size w w' := by
  obtain ⟨hl0, hc0, hA0, l, hlen, hwf, hrd⟩ := w0.rd
  obtain ⟨hl1, hc1, hA1, v, hlen1, hwf1, hrd1⟩ := w1.rd
  obtain ⟨c0, c1⟩ := i64_of_wf w2
  have hwi := within_book a2 7 c0 c1 (by omega) (by omega)
  obtain ⟨x0, x1⟩ := wdV_bd a2 0 7 (by omega)
  generalize wdV a2 0 7 = gv at *
  obtain ⟨gi, rfl⟩ := Int.eq_ofNat_of_zero_le x0
  obtain ⟨p1, p2⟩ := low_prom 0 8 (by omega) (by omega)
  have HGI := Lib.hid (show gi ≤ 7 by omega)
  have HWI := Lib.hid hwi
  have HRD := Lib.hid hrd
  have HWF := Lib.hid hwf
  have HLEN := Lib.hid hlen
  have HRD1 := Lib.hid hrd1
  have HWF1 := Lib.hid hwf1
  have HLEN1 := Lib.hid hlen1
  have HP1 := Lib.hid p1
  have HP2 := Lib.hid p2
  unfold maxLen at hc0 hc1
  clear hwi hrd hwf w0 w1 w2 hA0 hlen hrd1 hwf1 hA1 hlen1 p1 p2 c0 c1 x0
  go_enter Try.func6, Try.ntmps6
  go_wp2_with fail
  refine (newP_any _).mono ?_
  rintro e w1 ⟨rfl, hp1, hb1⟩
  have HQ1 := Lib.hid hp1
  have HB1 := Lib.hid hb1
  have hg1 := hp1.z
  clear hp1 hb1
  generalize hG : w.heap.size = g at *
  have HG := Lib.hid hG
  clear hG
  go_wp2_with (go_at_call 13; refine (promise_any 0 8 _ HQ1.out).mono ?_; rintro e w2 ⟨rfl, hp2, ht2⟩
               rw [show po0.promV 0 8 = 0 from HP1.out]
               have HQ2 := Lib.hid hp2
               have HB2 := Lib.hid (ht2.below (Nat.le_refl _) (Nat.le_refl _) HB1.out (Nat.le_of_lt hg1))
               clear hp2 ht2)
  go_loopw [8] (fun i wr => ∃ (k : Nat) (S : Po), k ≤ 8 ∧ i = .int .i64 k ∧ Hid (IsP wr g S) ∧ Hid (Low S 0 8 (fun f => decide (16 ≤ f ∧ f < 16 + k))) ∧ Hid (∀ f a, S.byte f a = 0) ∧ Hid (Below g w wr)) (fun i _ => 8 - (intOf i).toNat)
  case atStart => exact ⟨0, _, by omega, rfl, HQ2, Lib.hid (by
    have := HP2.out
    have e : (fun f => decide (16 ≤ f ∧ f < 16 + 0)) = fun _ => false := by funext f; simp <;> omega
    rw [e]; exact this), Lib.hid (fun f a => by unfold Po.promS; split <;> rfl), HB2⟩
  case round =>
    clear HQ1 HB1 HQ2 HB2 HP1 HP2
    obtain ⟨k, S, hk, rfl, hQ, hL, hY, hB⟩ := hrel
    have hz := hQ.out.z
    by_cases hlt : k < 8
    · obtain ⟨e1, e2, e3⟩ := hL.out.take (16 + k) (by omega) (by simp) (fun j h1 h2 => by simp <;> omega) (by rw [hL.out.cnt (m := k) (by omega) (fun f => rfl)]; omega)
      have HE := Lib.hid (And.intro e1 e2)
      have HL2 := Lib.hid e3
      clear e1 e2 e3
      go_wp2_with (go_at_call 17; refine (take_any 0 _ hQ.out).mono ?_; rintro e w2 ⟨rfl, hp2, ht2⟩
                   rw [show S.takeE 0 = 0 from HE.out.1, show S.takeF 0 = 16 + k from HE.out.2]
                   have HQ2 := Lib.hid hp2
                   have HB2 := Lib.hid (ht2.below (Nat.le_refl _) (Nat.le_refl _) hB.out (Nat.le_of_lt hz))
                   clear hp2 ht2)
      go_roundw
      case rel => exact ⟨k + 1, _, by omega, by go_num, HQ2, Lib.hid (by
        have e : (fun f => decide (16 ≤ f ∧ f < 16 + (k + 1))) = fun f => decide (16 ≤ f ∧ f < 16 + k) || decide (f = 16 + k) := by
          funext f; rw [Bool.eq_iff_iff]; simp; omega
        rw [e]; exact HL2.out), Lib.hid (take_bytes hY.out 0), HB2⟩
      case measure => simp [intOf]; omega
    · have HK8 := Lib.hid (show k = 8 by omega)
      have hzn := (zero_of_info zeroW).1
      have hwn := Want.new hY.out wr
      have hQ3 := hQ.out.below ((Below.refl wr.heap.size wr).alloc (Nat.le_refl _) (.cells (zc 51) 51))
      have hB3 := hB.out.alloc (Nat.le_of_lt hz) (.cells (zc 51) 51)
      have hGz : wr.heap.size < (wr.alloc (.cells (zc 51) 51)).heap.size := by simp
      have HWN := Lib.hid hwn
      have HQ3 := Lib.hid hQ3
      have HB3 := Lib.hid hB3
      have HGZ := Lib.hid hGz
      generalize zc 51 = Z at *
      clear hk hwn hQ3 hB3 hGz
      go_wp2_with fail
      clear hlt hzn
      generalize wr.alloc (.cells Z 51) = W at *
      have hgG : g < wr.heap.size := hz
      generalize hGw : wr.heap.size = G at *
      clear hGw hY
      go_loopw [12] (fun i wx => ∃ (j : Nat) (S : Po), j ≤ 40 ∧ j ≤ len0 ∧ j ≤ len1 ∧ i = .int .i64 j ∧ Hid (IsP wx g S) ∧ Hid (Low S 0 8 (fun f => decide (16 ≤ f ∧ f < 24))) ∧ Hid (Want wx G S) ∧ Hid (Below g w wx) ∧ Hid (G < wx.heap.size)) (fun i _ => 40 - (intOf i).toNat)
      case atStart => exact ⟨0, S, by omega, by omega, by omega, rfl, HQ3, Lib.hid (by have := hL.out; rw [HK8.out] at this; exact this), HWN, HB3, HGZ⟩
      case round =>
        clear hQ hL hB HQ3 HWN HB3 HGZ HK8 hz
        obtain ⟨j, S, hj, hj0, hj1, rfl, hQ, hL, hW, hB, hZ⟩ := hrel
        have hz := hQ.out.z
        have hzz := hZ.out
        by_cases hlt : j < len0 ∧ j < len1 ∧ j < 40
        · obtain ⟨h1, h2, h3⟩ := hlt
          have hkl : j < l.length := by have := HLEN.out; omega
          have hkl1 : j < v.length := by have := HLEN1.out; omega
          obtain ⟨b, off, rfl, hbg, hc⟩ := HRD.out (by rw [List.length_map]; omega)
          obtain ⟨b2, off2, rfl, hbg2, hc2⟩ := HRD1.out (by rw [List.length_map]; omega)
          have hbg' : b < g := by have := HG.out; omega
          have hbg2' : b2 < g := by have := HG.out; omega
          have hck := (hB.out.cell (p := ⟨b, off + j, none⟩) hbg').trans (hc j (.int .i64 l[j]) (by simp [List.getElem?_eq_getElem hkl]))
          have hck2 := (hB.out.cell (p := ⟨b2, off2 + j, none⟩) hbg2').trans (hc2 j (.int .u8 v[j]) (by simp [List.getElem?_eq_getElem hkl1]))
          obtain ⟨b0, b1⟩ := i64_of_wf (HWF.out _ (List.getElem_mem hkl))
          have hy := u8_of_wf (HWF1.out _ (List.getElem_mem hkl1))
          have hwd := within_book l[j] 511 b0 b1 (by omega) (by omega)
          obtain ⟨y0, y1⟩ := wdV_bd l[j] 0 511 (by omega)
          generalize wdV l[j] 0 511 = y at *
          generalize l[j] = x at *
          generalize v[j] = vj at *
          obtain ⟨q, rfl⟩ := Int.eq_ofNat_of_zero_le y0
          have hq : q < 512 := by omega
          have HWD := Lib.hid hwd
          have hbB : S.bB (16 + (q : Int) / 64) ((q : Int) % 64) = true := by
            have e1 : (16 + (q : Int) / 64) = ((16 + q / 64 : Nat) : Int) := by omega
            have e2 : aB ((q : Int) % 64) = true := by simp [aB]; omega
            unfold Po.bB
            rw [e1, hL.out.hB (16 + q / 64) (by omega), e2]; simp; omega
          have HBB := Lib.hid hbB
          have HY := Lib.hid hy
          have hcw := hW.out.1 q hq
          have hfw := hW.out.2 q
          have HCW := Lib.hid hcw
          have HFW := Lib.hid hfw
          clear hc hc2 hwd hkl hkl1 hbB hy hcw hfw
          go_wp2_with (first
            | (go_at_call 12; refine (HWD.out _).mono ?_; rintro e w' ⟨rfl, rfl⟩)
            | (go_at_call 19; refine (put_any (16 + (q : Int) / 64) ((q : Int) % 64) vj HY.out _ hQ.out HBB.out).mono ?_; rintro e w2 ⟨rfl, hp2, ht2⟩
               have d1 := (ht2.cell (p := ⟨G, q, none⟩) hzz (by simp; omega) (by simp; omega)).trans HCW.out
               have d2 := (ht2.frozen (p := ⟨G, q, none⟩) hzz (by simp; omega) (by simp; omega)).trans HFW.out
               have d3 := (ht2.cell (p := ⟨b2, off2 + j, none⟩) (by simp; omega) (by simp; omega) (by simp; omega)).trans hck2
               have d4 := ht2.size
               have HQ2 := Lib.hid hp2
               have HW2 := Lib.hid (hW.out.keep (ht2.block G hzz (by omega) (by omega)))
               have HB2 := Lib.hid (ht2.below (Nat.le_refl _) (Nat.le_refl _) hB.out (Nat.le_of_lt hz))
               clear hp2 ht2))
          go_roundw
          case rel =>
            refine ⟨j + 1, S.put (16 + q / 64) (q % 64) vj, by omega, by omega, by omega, by go_num, Lib.hid ?_, Lib.hid (hL.out.put _ _ _), Lib.hid (HW2.out.put q hq vj), Lib.hid (HB2.out.setCell (by simp; omega) _), Lib.hid (by simp; omega)⟩
            have h := HQ2.out
            rw [show (16 + (q : Int) / 64).toNat = 16 + q / 64 by omega, show ((q : Int) % 64).toNat = q % 64 by omega] at h
            exact h.far (by simp; omega) _
          case measure => simp [intOf]; omega
        · have HEX := Lib.hid hlt
          rcases (show len0 ≤ j ∨ (j < len0 ∧ len1 ≤ j) ∨ (j < len0 ∧ j < len1 ∧ 40 ≤ j) by omega) with hex | ⟨hex, hex2⟩ | ⟨hex, hex2, hex3⟩
          all_goals
            clear hlt
            obtain ⟨g1, g2, g3⟩ := hL.out.give (16 + gi) (by simp; have := HGI.out; omega)
            have hnum : ((16 + gi : Nat) : Int) = 16 + (gi : Int) := by omega
            rw [hnum] at g1 g2
            have HGG := Lib.hid (And.intro g1 g2)
            have HG3 := Lib.hid g3
            have HNB := Lib.hid (show (S.rel1 (16 + gi)).bB (16 + (gi : Int)) 0 = false by
              have := (byte_gone g3 (16 + gi) 0 (by have := HGI.out; omega) (by omega) (by simp)).1
              rw [hnum] at this; exact this)
            clear g1 g2 g3 hnum
            go_wp2_with (first
              | (go_at_call 12; refine (HWI.out _).mono ?_; rintro e w' ⟨rfl, rfl⟩)
              | (go_at_call 15; refine (give_any 0 _ 1 1 [16 + (gi : Int)] rfl (by omega) _ (hQ.out.below ((Below.refl _ _).alloc (Nat.le_refl _) _)) (one_rdx _ g hz _ _)).mono ?_; rintro e w2 ⟨rfl, hp2, ht2⟩
                 rw [show S.giveV 0 [16 + (gi : Int)] = 0 from HGG.out.1]
                 rw [show S.giveS 0 [16 + (gi : Int)] = S.rel1 (16 + gi) from HGG.out.2] at hp2
                 have HQ2 := Lib.hid hp2
                 have HB2 := Lib.hid (ht2.below (Nat.le_refl _) (Nat.le_refl _) (hB.out.alloc (Nat.le_of_lt hz) _) (by simp; omega))
                 have HW2 := Lib.hid (hW.out.keep ((ht2.block G (by simp; omega) (by omega) (by omega)).trans (Below.heap_alloc _ _ G hzz)))
                 clear hp2 ht2)
              | (go_at_call 19; refine (put_no (16 + (gi : Int)) 0 1 _ HQ2.out HNB.out).mono ?_; rintro e w' ⟨rfl, rfl⟩))
            clear hex
            try clear hex2
            try clear hex3
            clear hQ hW hB hZ hzz hL
            go_loop [15] (fun i => ∃ k : Nat, k ≤ 512 ∧ i = .int .i64 k) (fun i => 512 - (intOf i).toNat)
            case atStart => exact ⟨0, by omega, rfl⟩
            case round =>
              obtain ⟨k, hk, rfl⟩ := hrel
              by_cases hlt : k < 512
              · have hnum : (16 + (k : Int) / 64) = ((16 + k / 64 : Nat) : Int) := by omega
                have hnum2 : ((k : Int) % 64) = ((k % 64 : Nat) : Int) := by omega
                have hcw := HW2.out.1 k hlt
                have hgi := HGI.out
                have hby := byte_any (16 + (k : Int) / 64) ((k : Int) % 64) _ HQ2.out
                have hsb := HQ2.out.good
                have hk0 : (k : Int) < 512 := by omega
                by_cases he : k / 64 = gi
                · obtain ⟨f1, f2⟩ := byte_gone HG3.out (16 + k / 64) (k % 64) (by omega) (by omega) (by simp; omega)
                  rw [← hnum, ← hnum2] at f1 f2
                  rw [f1, f2] at hby
                  have HBY := Lib.hid hby
                  have hne : ((k : Int) / 64 != (gi : Int)) = false := by simp; omega
                  clear hnum hnum2 hby he f1 f2 hsb hgi
                  generalize S.byte (16 + k / 64) (k % 64) = y at *
                  go_wp2_with (go_at_call 18; refine HBY.out.mono ?_; rintro e w' ⟨rfl, rfl⟩)
                  go_round
                  case rel => exact ⟨k + 1, by omega, by go_num⟩
                  case measure => simp [intOf]; omega
                · obtain ⟨f1, f2⟩ := byte_here HG3.out (16 + k / 64) (k % 64) (by omega) (by omega) (by simp; omega) (by omega)
                  rw [← hnum, ← hnum2] at f1 f2
                  rw [f1, f2] at hby
                  have HBY := Lib.hid hby
                  have hne : ((k : Int) / 64 != (gi : Int)) = true := by simp; omega
                  clear hnum hnum2 hby he f1 f2 hsb hgi
                  generalize S.byte (16 + k / 64) (k % 64) = y at *
                  go_wp2_with (go_at_call 18; refine HBY.out.mono ?_; rintro e w' ⟨rfl, rfl⟩)
                  go_round
                  case rel => exact ⟨k + 1, by omega, by go_num⟩
                  case measure => simp [intOf]; omega
              · have f1 : (S.rel1 (16 + gi)).bB 16 (-1) = false := by unfold Po.bB; simp [aB]
                have f2 : (S.rel1 (16 + gi)).bB 16 64 = false := by unfold Po.bB; simp [aB]
                have f3 : (S.rel1 (16 + gi)).bB 0 0 = false := (byte_gone HG3.out 0 0 (by omega) (by omega) (by simp)).1
                have h1 := byte_any 16 (-1) _ HQ2.out
                have h2 := byte_any 16 64 _ HQ2.out
                have h3 := byte_any 0 0 _ HQ2.out
                rw [f1] at h1
                rw [f2] at h2
                rw [f3] at h3
                have H1 := Lib.hid h1
                have H2 := Lib.hid h2
                have H3 := Lib.hid h3
                clear h1 h2 h3 f1 f2 f3
                go_wp2_with (first
                  | (go_at_call 18; (first | (with_reducible refine H1.out.mono ?_) | (with_reducible refine H2.out.mono ?_) | (with_reducible refine H3.out.mono ?_)); rintro e w' ⟨rfl, rfl⟩)
                  | (go_at_call 11; refine (known_any _).mono ?_; rintro e w3 ⟨rfl, hb3⟩; have HB3 := Lib.hid hb3; clear hb3))
                go_ret
                have hh := HG.out
                subst hh
                exact ⟨rfl, HB2.out.trans (HB3.out.mono HB2.out.size)⟩
end Go.Proofs.Ytjjcbkmdmdkgiaa

/-
  innkeeperlaw5.FramesOwn returns true: its walk.
-/
import Derived.Test.YtjjcbkmdmdkgiaaPo
import Derived.Test.YtjjcbkmdmdkgiaaRowK
import Derived.Test.YtjjcbkmdmdkgiaaWi
import Derived.Test.YtjjcbkmdmdkgiaaPd2
import Derived.Deep.DeepCutAuto
import Derived.Deep.CutBlock
import Derived.Deep.CutRange
import Derived.Deep.OwnRows
namespace Go.Proofs.Ytjjcbkmdmdkgiaa
open Go.RowKit
set_option linter.unusedSimpArgs false
set_option linter.unusedVariables false

theorem Try.info_bool : (Try.prog.info? 4).map (fun i => (i.zero, i.size, i.bytes)) = some (some (.bool false), 1, 1) := by kernel_rfl
/-- the law's row of marks -/
def Seen (w : World) (G : Nat) (P : Nat → Bool) : Prop := (∀ f, f < 256 → w.cell? ⟨G, f, none⟩ = some (.bool (P f))) ∧ ∀ i, w.frozen? ⟨G, i, none⟩ = false
theorem Seen.new (w : World) : Seen (w.alloc (.cells (madeCells #[Value.bool false] 256) 4)) w.heap.size (fun _ => false) := by
  refine ⟨fun f hf => ?_, fun i => World.frozen?_alloc_new _ _ _ _⟩
  rw [World.cell?_alloc_new, Array.getElem?_eq_getElem (by rw [size_madeCells]; exact hf)]
  simp [madeCells, Nat.mod_one]
theorem Seen.keep {w w' : World} {G : Nat} {P : Nat → Bool} (h : Seen w G P) (he : w'.heap[G]? = w.heap[G]?) : Seen w' G P :=
  ⟨fun k hk => by have := h.1 k hk; simp only [World.cell?, he] at this ⊢; exact this, fun i => by have := h.2 i; simp only [World.frozen?, he] at this ⊢; exact this⟩
theorem Seen.set {w : World} {G : Nat} {P : Nat → Bool} (h : Seen w G P) (q : Nat) (hq : q < 256) : Seen (w.setCell ⟨G, q, none⟩ (.bool true)) G (fun f => P f || decide (f = q)) := by
  refine ⟨fun f hf => ?_, fun i => by rw [World.frozen?_setCell]; exact h.2 i⟩
  by_cases e : f = q
  · subst e; rw [World.cell?_setCell_same _ _ _ (h.1 f hf)]; simp
  · rw [World.cell?_setCell_other _ _ _ _ (by simp <;> omega), h.1 f hf]; simp [e]
theorem nodup_take {L : List Nat} (h : L.Nodup) {t : Nat} (ht : t < L.length) : L[t] ∉ L.take t := fun hm => by
  have h1 : (L.take (t + 1)).Nodup := h.sublist (List.take_sublist _ _)
  rw [List.take_succ_eq_append_getElem ht, List.nodup_append] at h1
  exact h1.2.2 _ hm _ (List.mem_singleton.2 rfl) rfl
theorem Seen.same {w : World} {G : Nat} {P R : Nat → Bool} (h : Seen w G P) (he : ∀ f, f < 256 → P f = R f) : Seen w G R := ⟨fun f hf => by rw [h.1 f hf, he f hf], h.2⟩

set_option maxRecDepth 100000 in
set_option maxHeartbeats 8000000 in
theorem framesOwn_walk (A0 : Option Addr) (len0 cap0 : Nat) (L0 : List Ax) (w : World) (w0 : RowK w A0 len0 cap0 L0) :
    Calls Try.prog 4 #[.slice A0 len0 cap0] w fun e w' => e = .returned (.bool true) ∧ Below w.heap.size w w' := by
  obtain ⟨hlen, hl0, hc0, hA0, hcells, hin⟩ := w0
  have HLEN := Lib.hid hlen
  have HC := Lib.hid hcells
  have HIN := Lib.hid hin
  unfold maxLen at hc0
  clear hlen hcells hin hA0
  go_enter Try.func4, Try.ntmps4
  go_wp2_with fail
  refine (newP_any _).mono ?_
  rintro e w1 ⟨rfl, hp1, hb1⟩
  have HQ1 := Lib.hid hp1
  have HB1 := Lib.hid hb1
  clear hp1 hb1
  generalize hG : w.heap.size = g at *
  have HG := Lib.hid hG
  clear hG
  go_wp2_with fail
  go_loopw [4] (fun i wr => ∃ (k : Nat) (S : Po), k ≤ 80 ∧ k ≤ len0 ∧ i = .int .i64 k ∧ Hid (IsP wr g S) ∧ Hid S.Inv ∧ Hid (Below g w wr)) (fun i _ => 80 - (intOf i).toNat)
  case atStart => exact ⟨0, po0, by omega, by omega, rfl, HQ1, Lib.hid inv0, HB1⟩
  case round =>
    clear HQ1 HB1
    obtain ⟨k, S, hk, hkn, rfl, hQ, hI, hB⟩ := hrel
    have hz := hQ.out.z
    by_cases hlt : k < len0 ∧ k < 80
    · obtain ⟨h1, h2⟩ := hlt
      have hkl : k < L0.length := by have := HLEN.out; omega
      obtain ⟨b, off, rfl, hbg, hc⟩ := HC.out (by omega)
      have hbg' : b < g := by have := HG.out; omega
      have key := fun j u hu => (hB.out.cell (p := ⟨b, off + k * 5 + j, none⟩) hbg').trans (hc k hkl j u hu)
      have e0 := key 0 _ rfl
      have e1 := key 1 _ rfl
      have e2 := key 2 _ rfl
      have e3 := key 3 _ rfl
      have e4 := key 4 _ rfl
      rw [Nat.add_zero] at e0
      have hbw : b < wr.heap.size := by omega
      have hq := HIN.out _ (List.getElem_mem hkl)
      obtain ⟨b0, b1⟩ := i64_of_wf hq.o
      have hwi := within_book L0[k].o 3 b0 b1 (by omega) (by omega)
      obtain ⟨x0, x1⟩ := wdV_bd L0[k].o 0 3 (by omega)
      generalize wdV L0[k].o 0 3 = ow at *
      have HWI := Lib.hid hwi
      clear hc key hq b0 b1 hwi
      generalize L0[k] = q at *
      obtain ⟨o, rfl⟩ := Int.eq_ofNat_of_zero_le x0
      have ho : o < 4 := by omega
      obtain ⟨qk, qo, qn, qA, ql, qc, qz, qb⟩ := q
      simp only at e0 e1 e2 e3 e4 HWI
      clear hkl
      go_upto_block 2 with (go_at_call 12; refine (HWI.out _).mono ?_; rintro e w' ⟨rfl, rfl⟩)
      have hB0 := (Below.refl wr.heap.size wr).alloc (Nat.le_refl _) (.cells (askC qk qo qn qA ql qc qb) 30)
      have hn : ∀ i, (wr.alloc (.cells (askC qk qo qn qA ql qc qb) 30)).cell? ⟨wr.heap.size, i, none⟩ = (askC qk qo qn qA ql qc qb)[i]? := fun i => World.cell?_alloc_new _ _ _ _
      have c2 := hn 2
      simp only [List.getElem?_toArray, List.getElem?_cons_zero, List.getElem?_cons_succ] at c2
      have HQW := Lib.hid (hQ.out.below hB0)
      have HBW := Lib.hid (hB.out.trans (hB0.mono (Nat.le_of_lt hz)))
      have hzW : g < (wr.alloc (.cells (askC qk qo qn qA ql qc qb) 30)).heap.size := by simp; omega
      clear hn hB0 e0 e1 e2 e3 e4 hQ hB hbw hz HC HIN
      generalize wr.alloc (.cells (askC qk qo qn qA ql qc qb) 30) = W at *
      generalize wr.heap.size = X at *
      go_cut [7, 8, 9, 10, 11, 12] from 24 to 165 (fun s7 s8 s9 s10 s11 s12 wx => ∃ S' : Po, Hid (IsP wx g S') ∧ Hid S'.Inv ∧ Hid (Below g w wx))
      case first =>
        by_cases k1 : qk = 1
        · subst k1
          go_wp2_with (go_at_call 13; refine (promise_any (o : Int) qn _ HQW.out).mono ?_; rintro e w2 ⟨rfl, hp2, ht2⟩
                       have HP2 := Lib.hid hp2
                       have HB2 := Lib.hid (ht2.below (Nat.le_refl _) (Nat.le_refl _) HBW.out (Nat.le_of_lt hzW))
                       clear hp2 ht2)
          go_meet
          case rel => exact ⟨_, HP2, Lib.hid (inv_prom hI.out _ _), HB2⟩
        have k1b : (qk == 1) = false := by simpa using k1
        by_cases k3 : qk = 3
        · subst k3
          have hhd := held_any (o : Int) _ HQW.out
          unfold Held at hhd
          have HME := Lib.hid (fun f => heldL_mem (S := S) (o := (o : Int)) (k := 256) (f := f))
          have hle := heldL_le S o 256
          generalize hL : S.heldL (↑o) 256 = L at *
          generalize hnn : L.length = n at *
          have HNL := Lib.hid hnn
          have HHD := Lib.hid hhd
          clear hhd hL hnn k1 k1b
          by_cases hn0 : 0 < n
          · have hm : n / 2 < L.length := by have := HNL.out; omega
            have hme := (HME.out L[n / 2]).1 (List.getElem_mem hm)
            have hget := nv_get hm
            have hdiv : ((n : Int) / 2) = ((n / 2 : Nat) : Int) := by omega
            have HDIV := Lib.hid hdiv
            have hmn : n / 2 < n := by omega
            have hok : S.okG (o : Int) [((L[n / 2] : Nat) : Int)] := ⟨by simp, fun f hf => by
              obtain rfl := List.mem_singleton.1 hf
              exact hme.2⟩
            have hgv : S.giveV (o : Int) [((L[n / 2] : Nat) : Int)] = 0 := by
              rcases give_cases S o [((L[n / 2] : Nat) : Int)] with ⟨hx, _⟩ | ⟨_, ⟨hx, _⟩ | ⟨_, hx, _⟩⟩
              · simp [oB] at hx; omega
              · exact absurd hok hx
              · exact hx
            have HGV := Lib.hid hgv
            have HGET := Lib.hid hget
            clear hget hok hgv hme
            generalize L[n / 2] = x at *
            clear hm
            generalize n / 2 = m at *
            go_wp2_with (first
              | (go_at_call 14; refine HHD.out.mono ?_; rintro e w2 ⟨A1, c1, rfl, hO, hb⟩
                 obtain ⟨b1, off1, rfl, hb1, hc1⟩ := (Rd.of_own hO) (by rw [nv_len, HNL.out]; exact hn0)
                 have d1 := hc1 m _ HGET.out
                 have HQ2 := Lib.hid (HQW.out.below hb)
                 have HB2 := Lib.hid (HBW.out.trans (hb.mono (Nat.le_of_lt hzW)))
                 have hz2 : g < w2.heap.size := Nat.lt_of_lt_of_le hzW hb.size
                 clear hO hc1 hb)
              | (go_at_call 15; refine (give_any (o : Int) _ 1 1 [(x : Int)] rfl (by omega) _ (HQ2.out.below ((Below.refl _ _).alloc (Nat.le_refl _) _)) (one_rdx _ g hz2 _ _)).mono ?_; rintro e w3 ⟨rfl, hp3, ht3⟩
                 rw [show S.giveV (o : Int) [(x : Int)] = 0 from HGV.out]
                 have HP3 := Lib.hid hp3
                 have HB3 := Lib.hid (ht3.below (Nat.le_refl _) (Nat.le_refl _) (HB2.out.alloc (Nat.le_of_lt hz2) _) (by simp; omega))
                 clear hp3 ht3))
            go_meet
            case rel => exact ⟨_, HP3, Lib.hid (inv_give hI.out _ _), HB3⟩
          · have hn1 : n = 0 := by omega
            subst hn1
            clear hn0
            go_wp2_with (go_at_call 14; refine HHD.out.mono ?_; rintro e w2 ⟨A1, c1, rfl, hO, hb⟩
                         have HQ2 := Lib.hid (HQW.out.below hb)
                         have HB2 := Lib.hid (HBW.out.trans (hb.mono (Nat.le_of_lt hzW)))
                         clear hO hb)
            go_meet
            case rel => exact ⟨_, HQ2, hI, HB2⟩
        have k3b : (qk == 3) = false := by simpa using k3
        by_cases k4 : qk = 4
        · subst k4
          go_wp2_with (go_at_call 16; refine (drop_any (o : Int) _ HQW.out).mono ?_; rintro e w2 ⟨rfl, hp2, ht2⟩
                       have HP2 := Lib.hid hp2
                       have HB2 := Lib.hid (ht2.below (Nat.le_refl _) (Nat.le_refl _) HBW.out (Nat.le_of_lt hzW))
                       clear hp2 ht2)
          go_meet
          case rel => exact ⟨_, HP2, Lib.hid (inv_drop hI.out _), HB2⟩
        have k4b : (qk == 4) = false := by simpa using k4
        clear k1 k3 k4
        have hta := take_any (g := g) (o : Int) _ HQW.out
        unfold Taken at hta
        have HIT := Lib.hid (inv_take hI.out (o : Int))
        by_cases he : S.takeE o = 0
        · have HTK := Lib.hid (fun i hi => took (o := (o : Int)) he i hi)
          rw [he] at hta
          have HTA := Lib.hid hta
          clear hta he
          generalize hf : S.takeF (↑o) = f at *
          generalize hs : S.takeS (↑o) = T at *
          clear hf hs
          go_wp2_with (go_at_call 17; refine HTA.out.mono ?_; rintro e w2 ⟨rfl, hp2, ht2⟩
                       have HP2 := Lib.hid hp2
                       have HB2 := Lib.hid (ht2.below (Nat.le_refl _) (Nat.le_refl _) HBW.out (Nat.le_of_lt hzW))
                       clear hp2 ht2)
          go_loopw [10] (fun i wx => ∃ (j : Nat) (Y : Po), j ≤ 64 ∧ i = .int .i64 j ∧ Hid (IsP wx g Y) ∧ Hid (Y.own = T.own) ∧ Hid (Y.prom = T.prom) ∧ Hid (∀ i, j ≤ i → i < 64 → Y.byte f i = T.byte f i) ∧ Hid (Below g w wx)) (fun i _ => 64 - (intOf i).toNat)
          case atStart => exact ⟨0, T, by omega, rfl, HP2, Lib.hid rfl, Lib.hid rfl, Lib.hid (fun _ _ _ => rfl), HB2⟩
          case round =>
            obtain ⟨j, Y, hj, rfl, hQ, hY1, hY2, hY3, hB⟩ := hrel
            have hz := hQ.out.z
            by_cases hlt : j < 64
            · have hbb : Y.bB (f : Int) (j : Int) = true := by
                have := (HTK.out j hlt).1
                unfold Po.bB Po.hB at this ⊢
                rw [hY1.out]; exact this
              have hbt : Y.bt (f : Int) (j : Int) = 0 := by
                have h1 := (HTK.out j hlt).2
                unfold Po.bt at h1 ⊢
                rw [if_pos hbb]
                rw [if_pos (HTK.out j hlt).1] at h1
                rw [Int.toNat_natCast, Int.toNat_natCast] at h1 ⊢
                rw [hY3.out j (Nat.le_refl _) hlt]; exact h1
              have hby := byte_any (f : Int) (j : Int) _ hQ.out
              rw [hbb, hbt] at hby
              have HBY := Lib.hid hby
              have HBB := Lib.hid hbb
              clear hby hbb hbt
              go_wp2_with (first
                | (go_at_call 18; refine HBY.out.mono ?_; rintro e w' ⟨rfl, rfl⟩)
                | (go_at_call 19; refine (put_any (f : Int) (j : Int) 255 (by omega) _ hQ.out HBB.out).mono ?_; rintro e w3 ⟨rfl, hp3, ht3⟩
                   rw [Int.toNat_natCast, Int.toNat_natCast] at hp3
                   have HP3 := Lib.hid hp3
                   have HB3 := Lib.hid (ht3.below (Nat.le_refl _) (Nat.le_refl _) hB.out (Nat.le_of_lt hz))
                   clear hp3 ht3))
              go_roundw
              case rel => exact ⟨j + 1, _, by omega, by go_num, HP3, hY1, hY2, Lib.hid (fun i h1 h2 => by
                show upd Y.byte f (upd (Y.byte f) j 255) f i = _
                rw [upd_same, upd_other _ _ _ _ (by omega)]
                exact hY3.out i (by omega) h2), HB3⟩
              case measure => simp [intOf]; omega
            · have hge : 64 ≤ j := by omega
              clear hlt hj
              go_wp2_with fail
              go_meet
              case rel => exact ⟨Y, hQ, Lib.hid (inv_congr HIT.out hY1.out hY2.out), hB⟩
        · have hee : (S.takeE o == 0) = false := by simpa using he
          have HTA := Lib.hid hta
          clear hta he
          generalize hf : S.takeF (↑o) = f at *
          generalize hs : S.takeS (↑o) = T at *
          generalize S.takeE (↑o) = E at *
          clear hf hs
          go_wp2_with (go_at_call 17; refine HTA.out.mono ?_; rintro e w2 ⟨rfl, hp2, ht2⟩
                       have HP2 := Lib.hid hp2
                       have HB2 := Lib.hid (ht2.below (Nat.le_refl _) (Nat.le_refl _) HBW.out (Nat.le_of_lt hzW))
                       clear hp2 ht2)
          go_meet
          case rel => exact ⟨T, HP2, HIT, HB2⟩
      case rest =>
        clear HQW hI HBW c2 HWI
        obtain ⟨T, hQ, hI, hB⟩ := hcut
        have hz := hQ.out.z
        have hmk : ∀ W : World, (Instr.makeSlice 45 (.int .i64 256) (.int .i64 256)).run Try.prog W = .ok (.slice (some ⟨W.heap.size, 0, none⟩) 256 256) (W.alloc (.cells (madeCells #[Value.bool false] 256) 4)) := fun W => run_make_row' (P := Try.prog) 45 4 (.bool false) 1 Try.underlying45 Try.info_bool rfl .i64 .i64 256 (by omega) (by omega) W
        have hsn := Seen.new wc
        have HS0 := Lib.hid hsn
        have HQ0 := Lib.hid (hQ.out.below ((Below.refl wc.heap.size wc).alloc (Nat.le_refl _) (.cells (madeCells #[Value.bool false] 256) 4)))
        have HB0 := Lib.hid (hB.out.alloc (Nat.le_of_lt hz) (.cells (madeCells #[Value.bool false] 256) 4))
        have HZ0 := Lib.hid (show wc.heap.size < (wc.alloc (.cells (madeCells #[Value.bool false] 256) 4)).heap.size by simp)
        generalize madeCells #[Value.bool false] 256 = Z at *
        clear hsn
        go_wp2_with fail
        clear hmk
        generalize wc.alloc (.cells Z 4) = W2 at *
        generalize wc.heap.size = G at *
        have hzz := HZ0.out
        have hgG : g < G := hz
        clear hQ hB hz hzW
        go_loopw [14, 15] (fun sa so wx => ∃ (j a : Nat), j ≤ 4 ∧ a ≤ 240 ∧ so = .int .i64 j ∧ sa = .int .i64 a ∧ Hid (a = T.tot 256 j) ∧ Hid (IsP wx g T) ∧ Hid (Seen wx G (fun f => decide (0 ≤ T.own f ∧ T.own f < j))) ∧ Hid (Below g w wx) ∧ Hid (G < wx.heap.size)) (fun _ so _ => 4 - (intOf so).toNat)
        case atStart => exact ⟨0, 0, by omega, by omega, rfl, rfl, Lib.hid rfl, HQ0, Lib.hid (HS0.out.same fun f _ => by simp <;> omega), HB0, HZ0⟩
        case round =>
          clear HQ0 HS0 HB0 HZ0 hzz
          obtain ⟨j, a, hj, ha, rfl, rfl, hA, hQ, hS, hB, hZ⟩ := hrel
          have hz := hQ.out.z
          have hzz := hZ.out
          by_cases hlt : j < 4
          · have hgot : T.got (j : Int) = pos (T.prom j) := by unfold Po.got; rw [if_pos (show oB (j : Int) = true by simp [oB]; omega), Int.toNat_natCast]
            have hpr := fun (W : World) (hW : IsP W g T) => promised_any (j : Int) W hW
            simp only [hgot] at hpr
            clear hgot
            have hinv := hI.out j hlt
            have hhd := held_any (j : Int) _ hQ.out
            unfold Held at hhd
            have HME := Lib.hid (fun f => heldL_mem (S := T) (o := (j : Int)) (k := 256) (f := f))
            have HND := Lib.hid (heldL_nodup T (j : Int) 256)
            have hle := heldL_le T j 256
            have hts : T.tot 256 (j + 1) = T.tot 256 j + (T.heldL j 256).length := rfl
            have HTS := Lib.hid hts
            have htl := tot_le hQ.out.good (j + 1) (by omega)
            have hAA := hA.out
            have HAN := Lib.hid (show a + (T.heldL j 256).length ≤ 240 by omega)
            clear htl hAA hts
            generalize hL : T.heldL (↑j) 256 = L at *
            generalize hnn : L.length = n at *
            generalize pos (T.prom j) = pp at *
            have HNL := Lib.hid hnn
            have HHD := Lib.hid hhd
            have HPR := Lib.hid hpr
            clear hhd hpr hL hnn
            go_wp2_with (first
              | (go_at_call 14; refine HHD.out.mono ?_; rintro e w2 ⟨A1, c1, rfl, hO, hb⟩
                 have HO := Lib.hid hO
                 have HQ2 := Lib.hid (hQ.out.below hb)
                 have HS2 := Lib.hid (hS.out.keep (hb.block G hzz))
                 have HB2 := Lib.hid (hB.out.trans (hb.mono (Nat.le_of_lt hz)))
                 have HZ2 := Lib.hid (Nat.lt_of_lt_of_le hzz hb.size)
                 clear hO hb)
              | (go_at_call 20; refine (HPR.out _ HQ2.out).mono ?_; rintro e w' ⟨rfl, rfl⟩))
            have HZG := Lib.hid (Rdx.of_own HO.out hzz)
            clear hQ hS hB hZ hzz hz hinv HO
            go_loopw [14, 124] (fun sa st wx => ∃ (t m : Nat), t ≤ n ∧ m ≤ 240 ∧ st = .int .i64 t ∧ sa = .int .i64 m ∧ Hid (m = a + t) ∧ Hid (IsP wx g T) ∧ Hid (Seen wx G (fun f => decide (0 ≤ T.own f ∧ T.own f < j) || decide (f ∈ L.take t))) ∧ Hid (Below g w wx) ∧ Hid (G < wx.heap.size) ∧ Hid (Turn G G w2 wx)) (fun _ st _ => n - (intOf st).toNat)
            case atStart => exact ⟨0, a, by omega, ha, rfl, rfl, Lib.hid rfl, HQ2, Lib.hid (HS2.out.same fun f _ => by simp), HB2, HZ2, Lib.hid (Turn.refl _ _ _)⟩
            case round =>
              clear HQ2 HS2 HB2 HZ2
              obtain ⟨t, m, ht, hm, rfl, rfl, hMM, hQ, hS, hB, hZ, hT⟩ := hrel
              have hz := hQ.out.z
              have hzz := hZ.out
              by_cases hlt2 : t < n
              · have htl : t < L.length := by have := HNL.out; omega
                obtain ⟨b1, off1, rfl, hb1G, hb1, hc1⟩ := (HZG.out.turn hT.out) (by rw [nv_len, HNL.out]; omega)
                have d1 := hc1 t _ (nv_get htl)
                obtain ⟨hx1, hx2⟩ := (HME.out L[t]).1 (List.getElem_mem htl)
                have hnm := nodup_take HND.out htl
                have hts := List.take_succ_eq_append_getElem htl
                have HTS2 := Lib.hid hts
                clear hc1 hts
                generalize L[t] = x at *
                have how := (isB_nat hx1).1 hx2
                have hge := hQ.out.good.own x
                have h16 : 16 ≤ x := by omega
                have hcs : _ = some (Value.bool (decide (0 ≤ T.own x ∧ T.own x < (j : Int)) || decide (x ∈ L.take t))) := hS.out.1 x hx1
                have hfs := hS.out.2 x
                have hpx : (decide (0 ≤ T.own x ∧ T.own x < (j : Int)) || decide (x ∈ L.take t)) = false := by simp [hnm]; omega
                rw [hpx] at hcs
                have hwn := owner_any (x : Int) _ hQ.out
                have e1 : T.hB (x : Int) = true := by rw [hB_nat hx1]; simp [neB]; omega
                have e2 : T.who (x : Int) = (j : Int) := by unfold Po.who; rw [if_pos e1, Int.toNat_natCast]; exact how.1
                rw [e1, e2] at hwn
                have HWN := Lib.hid hwn
                have hself : ((j : Int) != (j : Int)) = false := by simp
                have hl16 : decide ((x : Int) < 16) = false := by simp; omega
                have hl256 : decide ((x : Int) ≥ 256) = false := by simp; omega
                have hx0 : (0 : Int) ≤ (x : Int) := by omega
                have hxi : (x : Int) < 256 := by omega
                have HM1 := Lib.hid (show m + 1 ≤ 240 by have := hMM.out; have := HAN.out; omega)
                have HX1 := Lib.hid hx1
                clear hnm hge hpx hwn e1 e2 how hx2 htl h16 hx1
                go_wp2_with (go_at_call 21; refine HWN.out.mono ?_; rintro e w' ⟨rfl, rfl⟩)
                go_roundw
                case rel => exact ⟨t + 1, m + 1, by omega, HM1.out, by go_num, by go_num, Lib.hid (by have := hMM.out; omega), Lib.hid (hQ.out.far (by simp; omega) _), Lib.hid ((hS.out.set x HX1.out).same fun f hf => by
                  rw [HTS2.out]; simp [Bool.or_assoc]), Lib.hid (hB.out.setCell (by simp; omega) _), Lib.hid (by simpa using hZ.out), Lib.hid (hT.out.setG _ _)⟩
                case measure => simp [intOf]; omega
              · have htn : t = n := by omega
                have HTN := Lib.hid htn
                clear htn ht
                go_wp2_with fail
                go_roundw
                case rel => exact ⟨j + 1, m, by omega, hm, by go_num, rfl, Lib.hid (by rw [HTS.out, ← hA.out, hMM.out, HTN.out]), hQ, Lib.hid (hS.out.same fun f hf => by
                  rw [HTN.out, ← HNL.out, List.take_length]
                  have h1 := HME.out f
                  have h2 := isB_nat (S := T) (o := (j : Int)) hf
                  have h3 : f ∈ L ↔ T.own f = (j : Int) := by rw [h1, h2]; constructor
                                                              · rintro ⟨_, h, _⟩; exact h
                                                              · intro h; exact ⟨hf, h, by omega⟩
                  rw [Bool.eq_iff_iff]
                  simp only [Bool.or_eq_true, decide_eq_true_eq, h3]
                  omega), hB, hZ⟩
                case measure => simp [intOf]; omega
          · have HJ4 := Lib.hid (show j = 4 by omega)
            have hge : 4 ≤ j := by omega
            have htf := tot_free hQ.out.good 256 (by omega)
            have hAA := hA.out
            rw [HJ4.out] at hAA
            have hfr := free_any _ hQ.out
            have hfl := freeN_le T 256
            have hsum : ((a : Int) + (T.freeN 256 : Int) != 240) = false := by simp; omega
            generalize T.freeN 256 = y at *
            have HFR := Lib.hid hfr
            clear hAA htf hfr hlt hj
            go_wp2_with (go_at_call 22; refine HFR.out.mono ?_; rintro e w' ⟨rfl, rfl⟩)
            go_roundw
            case rel => exact ⟨k + 1, T, by omega, by omega, by go_num, hQ, hI, hB⟩
            case measure => simp [intOf]; omega
    · rcases (show len0 ≤ k ∨ (k < len0 ∧ 80 ≤ k) by omega) with hex | ⟨hex, hex2⟩
      all_goals
        clear hlt
        go_wp2_with (go_at_call 11; refine (known_any _).mono ?_; rintro e w4 ⟨rfl, hb4⟩; have HB4 := Lib.hid hb4; clear hb4)
        go_ret
        have hh := HG.out
        subst hh
        exact ⟨rfl, hB.out.trans (HB4.out.mono hB.out.size)⟩
end Go.Proofs.Ytjjcbkmdmdkgiaa

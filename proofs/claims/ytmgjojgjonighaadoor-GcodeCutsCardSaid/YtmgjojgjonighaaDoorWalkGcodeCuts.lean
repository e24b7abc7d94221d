/-
  innkeeperlaw2.GcodeCuts returns true: its walk.
-/
import Derived.Test.YtmgjojgjonighaaDoorGc11
import Derived.Test.YtmgjojgjonighaaDoorGk2
import Derived.Test.YtmgjojgjonighaaDoorRow
import Derived.Test.YtmgjojgjonighaaDoorAppR
import Derived.StillTailTactics
import Derived.Outline
namespace Go.Proofs.YtmgjojgjonighaaDoor
open Go.RowKit
set_option linter.unusedSimpArgs false
set_option linter.unusedVariables false

theorem Tryd.info_int : (Tryd.prog.info? 3).map (fun i => (i.zero, i.size, i.bytes)) = some (some (.int .i64 0), 1, 8) := by kernel_rfl
/-- where each instruction ends, as cells -/
def eV (L : List (Int × Int)) : List Value := (List.range (L.length + 1)).map fun j => .int .i64 (eL L j : Nat)
theorem eV_snoc (L : List (Int × Int)) (p : Int × Int) : eV (L ++ [p]) = eV L ++ [.int .i64 ((encs (L ++ [p])).length : Nat)] := by
  unfold eV
  rw [List.length_append, List.length_singleton, List.range_succ, List.map_append]
  congr 1
  · apply List.map_congr_left
    intro j hj
    rw [eL_snoc L p j (by simp at hj; omega)]
  · have : eL (L ++ [p]) (L.length + 1) = (encs (L ++ [p])).length := by unfold eL; rw [List.take_of_length_le (by simp)]
    simp [this]
theorem bv_one (l : List UInt8) : ∀ u ∈ bv l, u.oneCell' = true := by
  intro u hu
  obtain ⟨b, _, rfl⟩ := List.mem_map.1 hu
  rfl

set_option maxRecDepth 100000 in
set_option maxHeartbeats 2000000 in
theorem gcodeCuts_walk (A0 : Option Addr) (len0 cap0 : Nat) (z0 : List Int) (A1 : Option Addr) (len1 cap1 : Nat) (z1 : List Int) (a2 : Int) (w : World) (w0 : IsRow .i64 w A0 len0 cap0 z0) (w1 : IsRow .u32 w A1 len1 cap1 z1) (w2 : (Lit.int .i64 a2).wf = true) (ht : Tab w.heap.size w) :
    Calls Tryd.prog 8 #[.slice A0 len0 cap0, .slice A1 len1 cap1, .int .i64 a2] w fun e w' => e = .returned (.bool true) ∧ Below w.heap.size w w' := by
  obtain ⟨hl0, hc0, hA0, l, rfl, hwl, hrl⟩ := w0.rd
  obtain ⟨hl1, hc1, hA1, n, rfl, hwn, hrn⟩ := w1.rd
  have HT := Lib.hid ht
  have HRL := Lib.hid hrl
  have HRN := Lib.hid hrn
  have HWL := Lib.hid hwl
  have HWN := Lib.hid hwn
  have HW2 := Lib.hid w2
  clear ht hrl hrn hwl hwn w0 w1 w2 hA0 hA1
  unfold maxLen at hc0 hc1
  go_enter Tryd.func8, Tryd.ntmps8
  go_wp2_with fail
  have k1 : (w.alloc (.cells #[.int .i64 0] 3)).ownsRow w.heap.size 3 1 (.slice (some ⟨w.heap.size, 0, none⟩) 1 1) 1 (eV []) := by
    refine ⟨by simp [eV], .inr ⟨w.heap.size, 1, #[.int .i64 0], rfl, Nat.le_refl _, heap_alloc_new _ _, by omega, by unfold maxLen; omega, rfl, ?_⟩⟩
    simp [eV, eL_zero, List.range, List.range.loop]
  have kb : Below w.heap.size w (w.alloc (.cells #[.int .i64 0] 3)) := (Below.refl _ _).alloc (Nat.le_refl _) _
  generalize w.alloc (.cells #[.int .i64 0] 3) = W0 at *
  have K1 := Lib.hid k1
  have KB := Lib.hid kb
  have hz0 := kb.size
  clear k1 kb
  go_loopw [7, 8, 9] (fun b es i wr => ∃ (L : List (Int × Int)) (Ab Ae : Option Addr) (cb ce : Nat), b = .slice Ab (encs L).length cb ∧ es = .slice Ae (L.length + 1) ce ∧ i = .int .i64 L.length ∧ L.length ≤ l.length ∧ L.length ≤ n.length ∧ L.length ≤ 20 ∧ Hid (∀ p ∈ L, Ok2 p)
      ∧ Hid (wr.ownsRow w.heap.size 5 1 (.slice Ab (encs L).length cb) (encs L).length (bv (encs L))) ∧ Hid (wr.ownsRow w.heap.size 3 1 (.slice Ae (L.length + 1) ce) (L.length + 1) (eV L)) ∧ Hid (Below w.heap.size w wr)) (fun _ _ i _ => 20 - (intOf i).toNat)
  case atStart => exact ⟨[], none, some ⟨w.heap.size, 0, none⟩, 0, 1, rfl, rfl, rfl, by simp, by simp, by simp, Lib.hid (by simp), Lib.hid (World.ownsRow_nil _ _ _ _), K1, KB⟩
  case round =>
    obtain ⟨L, Ab, Ae, cb, ce, rfl, rfl, rfl, b1, b2, b3, hL, hO, hE, hB⟩ := hrel
    have hel := (encs_len L hL.out).2
    by_cases hgo : L.length < l.length ∧ L.length < n.length ∧ L.length < 20
    · obtain ⟨g1, g2, g3⟩ := hgo
      obtain ⟨bl, ol, rfl, hbl, hcl⟩ := HRL.out (by simp; omega)
      obtain ⟨bn, on, rfl, hbn, hcn⟩ := HRN.out (by simp; omega)
      have e1 := (hB.out.cell (p := ⟨bl, ol + L.length, none⟩) hbl).trans (hcl L.length (.int .i64 l[L.length]) (by simp [List.getElem?_eq_getElem g1]))
      have e2 := (hB.out.cell (p := ⟨bn, on + L.length, none⟩) hbn).trans (hcn L.length (.int .u32 n[L.length]) (by simp [List.getElem?_eq_getElem g2]))
      have f1 := HWL.out _ (List.getElem_mem g1)
      obtain ⟨f2, f3⟩ := u32_of_wf (HWN.out _ (List.getElem_mem g2))
      generalize l[L.length] = ln at *
      generalize n[L.length] = nn at *
      have hin := instr_any ln nn f1 f2 f3
      have hok := inN_ok (opV ln) nn (opV_sz ln) f2 f3
      generalize inN (opV ln) nn = xn at *
      generalize opV ln = xo at *
      have hz := hB.out.size
      have HIN := Lib.hid hin
      have HOK := Lib.hid hok
      clear hcl hcn hin hok f1 f2 f3
      go_wp2_with fail
      have hq1 : bl < wr.heap.size := Nat.lt_of_lt_of_le hbl hz
      have hq2 : bn < wr.heap.size := Nat.lt_of_lt_of_le hbn hz
      go_region_held3 (fun w' => w'.cell? ⟨bl, ol + L.length, none⟩ = some (.int .i64 ln) ∧ w'.cell? ⟨bn, on + L.length, none⟩ = some (.int .u32 nn) ∧ Below wr.heap.size wr w')
        (first | exact ⟨e1, e2, (Below.refl _ _).drew⟩ | assumption | (refine two_keep hq1 hq2 ?_ hb9; assumption) | (refine two_keep hq1 hq2 ?_ hb8; assumption))
        (first
          | (go_at_call 13; refine (HIN.out _).mono ?_; rintro e w3 ⟨rfl, hb8⟩)
          | (go_at_call 25; refine (encode_ok xo xn HOK.out.1 HOK.out.2.1 HOK.out.2.2 _).mono ?_; rintro e w4 ⟨Ax, cx, rfl, hox, hb9⟩))
      go_split_ands
      have hb9' : Below wr.heap.size wr w4 := by assumption
      clear hb8 hb9
      have own1 := own_below hO.out hb9'
      have own2 := own_below hE.out hb9'
      have own3 := Rd.of_own hox
      have hzz := hb9'.size
      have hBB := Lib.hid (hB.out.trans (hb9'.mono hz))
      have O1 := Lib.hid own1
      have O2 := Lib.hid own2
      have O3 := Lib.hid own3
      have hecp := ec_pos xo xn HOK.out.1
      have hecl : (ecV xo xn).length ≤ 5 := by have := ecV_len xo xn (ok_sz HOK.out.1); have := szV_cases xo; omega
      have hne : (((ecV xo xn).length : Int) == 0) = false := beq_eq_false_iff_ne.2 (by omega)
      clear own1 own2 own3 hox hb9'
      generalize hecx : (ecV xo xn).length = m at *
      have HM := Lib.hid hecx
      clear hecx
      go_wp2_with (first
        | (at_builtin; refine wpList_app_rd rfl (.tmp 57) (.tmp 58) _ rfl w.heap.size 5 _ 1 1 Tryd.underlying27 Tryd.info_u8 rfl (by omega) (.slice Ab (encs L).length cb) (encs L).length (bv (encs L)) rfl O1.out w4.heap.size Ax m cx (bv (ecV xo xn)) rfl O3.out (by rw [bv_length, HM.out]; omega) (bv_one _) (by unfold maxLen; omega) (by omega) (by omega) ?_; intro A3 c3 w5 hx5; have O4 := Lib.hid (own_other O2.out O1.out (by decide) hx5); have B5 := Lib.hid (hx5.below (by omega) O1.out); have hz5 := hx5.size_le; have X5 := Lib.hid hx5.own; clear hx5)
        | (at_builtin; refine wpList_app rfl (.tmp 60) (.tmp 63) _ rfl w.heap.size 3 _ 1 8 Tryd.underlying34 Tryd.info_int rfl (by omega) (.slice Ae (L.length + 1) ce) (L.length + 1) (eV L) rfl (O4.out.alloc _) w5.heap.size 1 1 _ _ _ rfl (heap_alloc_new _ _) rfl (by simp [Value.oneCell']) (by omega) (by unfold maxLen; omega) (by omega) (by simp; omega) ?_; intro g6 c6 w6 hx6; have X6 := Lib.hid hx6.own; have O7 := Lib.hid (own_other (X5.out.alloc _) (O4.out.alloc _) (by decide) hx6); have B6 := Lib.hid (hx6.below (by simp; omega) (O4.out.alloc _)); clear hx6))
      have hLen : (encs (L ++ [(xo, xn)])).length = (encs L).length + m := by rw [encs_append, List.length_append, encs_cons, encs_nil, List.append_nil, HM.out]
      have hBv : bv (encs (L ++ [(xo, xn)])) = bv (encs L) ++ bv (ecV xo xn) := by rw [encs_append, bv_append, encs_cons, encs_nil, List.append_nil]
      go_roundw
      case rel =>
        refine ⟨L ++ [(xo, xn)], A3, some ⟨g6, 0, none⟩, c3, c6, by rw [hLen], by simp, by simp, by simp; omega, by simp; omega, by simp; omega, ?_, ?_, ?_, ?_⟩
        · apply Lib.hid; intro p hp
          rcases List.mem_append.1 hp with hp | hp
          · exact hL.out p hp
          · obtain rfl := List.mem_singleton.1 hp; exact HOK.out
        · apply Lib.hid; rw [hLen, hBv]; exact O7.out
        · apply Lib.hid
          have h := X6.out
          rw [eV_snoc, hLen, List.length_append, List.length_singleton]
          simpa using h
        · exact Lib.hid (((hBB.out.trans B5.out).alloc (by omega) _).trans B6.out)
      case measure => simp [intOf]; omega
    · have hend : Hid (L.length = min (min l.length n.length) 20) := by apply Lib.hid; omega
      obtain ⟨kk, hkk, hkb⟩ : ∃ kk : Nat, wdV a2 0 ((encs L).length : Nat) = kk ∧ kk ≤ (encs L).length := by
        have := wdV_bd a2 0 ((encs L).length : Nat) (by omega)
        exact ⟨(wdV a2 0 ((encs L).length : Nat)).toNat, by omega, by omega⟩
      have hwi := within_book a2 ((encs L).length : Nat) HW2.out (by omega) (by omega)
      rw [hkk] at hwi
      have HWI := Lib.hid hwi
      clear hwi hkk hend
      obtain ⟨gb, hown⟩ : ∃ x : Unit, True := ⟨(), trivial⟩
      clear hown gb
      obtain ⟨ge, oe, hAe, hge, hce⟩ := Rd.of_own hE.out (by simp [eV])
      subst hAe
      have hce2 : ∀ j, j ≤ L.length → wr.cell? ⟨ge, oe + j, none⟩ = some (.int .i64 (eL L j : Nat)) := fun j hj => hce j _ (by simp [eV, List.getElem?_map, List.getElem?_range (show j < L.length + 1 by omega)])
      have HCE := Lib.hid hce2
      clear hce hce2
      have ocap := own_cap hO.out
      have onone := own_none hO.out
      have hrb := Rd.of_own hO.out
      have hzb := hB.out.size
      have hall := all_any Ab cb ((encs L).take kk) (by rw [List.length_take]; omega) ocap.2 onone (by rw [List.length_take]; omega) wr (by
        have := hrb.take kk
        simpa [bv, List.map_take] using this)
      rw [List.length_take, show min kk (encs L).length = kk by omega] at hall
      have hsl := slice_hi Ab (encs L).length cb kk (by omega) ocap.2 onone
      have HALL := Lib.hid hall
      have HRB := Lib.hid hrb
      have HON := Lib.hid onone
      have HOC := Lib.hid ocap
      clear hall hrb onone ocap
      have hexit : (l.length ≤ L.length) ∨ (L.length < l.length ∧ n.length ≤ L.length) ∨ (L.length < l.length ∧ L.length < n.length ∧ 20 ≤ L.length) := by omega
      rcases hexit with g1 | ⟨g1, g2⟩ | ⟨g1, g2, g3⟩
      all_goals
        go_wp2_with (go_at_call 26; refine (HWI.out _).mono ?_; rintro e w' ⟨rfl, rfl⟩)
        go_loop [13, 14] (fun wv iv => ∃ (W i : Nat), wv = .int .i64 W ∧ iv = .int .i64 i ∧ i ≤ L.length + 1 ∧ W ≤ L.length ∧ (i = 0 → W = 0) ∧ (0 < i → W < i) ∧ Hid (eL L W ≤ kk) ∧ Hid (∀ j, W < j → j < i → kk < eL L j)) (fun _ iv => L.length + 1 - (intOf iv).toNat)
        case atStart => exact ⟨0, 0, rfl, rfl, by omega, by omega, by omega, by omega, Lib.hid (by rw [eL_zero]; omega), Lib.hid (by intro j h1 h2; omega)⟩
        case round =>
          obtain ⟨W, i, rfl, rfl, hi, hW, hi0, hWi, hle, hgt⟩ := hrel
          by_cases hlt : i < L.length + 1
          · have hc := HCE.out i (by omega)
            by_cases hk : eL L i ≤ kk
            · generalize hei : eL L i = ei at *
              have HEI := Lib.hid hei
              clear hei
              go_wp2_with fail
              go_round
              case rel => exact ⟨i, i + 1, rfl, by go_num, by omega, by omega, by omega, by omega, Lib.hid (by rw [HEI.out]; exact hk), Lib.hid (by intro j h1 h2; omega)⟩
              case measure => simp [intOf]; omega
            · generalize hei : eL L i = ei at *
              have HEI := Lib.hid hei
              clear hei
              go_wp2_with fail
              go_round
              case rel => exact ⟨W, i + 1, rfl, by go_num, by omega, by omega, by omega, by omega, hle, Lib.hid (by
                intro j h1 h2
                by_cases hji : j = i
                · subst hji; rw [HEI.out]; omega
                · exact hgt.out j h1 (by omega))⟩
              case measure => simp [intOf]; omega
          · go_wp2_with fail
            refine HALL.out.mono ?_
            rintro e w7 ⟨M, a, A5, c5, rfl, ha, hM, hME, hMD, hMO, hMB⟩
            obtain ⟨q1, q2, q3⟩ := cut_all L hL.out kk W hkb hW hle.out (fun j h1 h2 => hgt.out j h1 (by omega)) M a hM ha hME hMD
            have ha2 : a ≤ kk := by rw [List.length_take] at ha; omega
            have t1 : ((M.length : Int) != (W : Int)) = false := by rw [q1]; simp
            have t2 : ((a : Int) != ((eL L W : Nat) : Int)) = false := by rw [q2]; simp
            have hcw := (hMB.cell (p := ⟨ge, oe + W, none⟩) hge).trans (HCE.out W hW)
            have hz7 := hMB.size
            obtain ⟨Ax, hsx, hrx⟩ := slice_any w7 wr.heap.size Ab cb a kk (encs L) ha2 hkb HOC.out.1 HOC.out.2 HON.out (HRB.out.below hMB)
            have hd := decode_any Ax (cb - a) (((encs L).take kk).drop a) (by rw [List.length_drop, List.length_take]; have := HOC.out.1; omega) (by have := HOC.out.2; omega) w7 (hrx.more hz7)
            have hs0 : dcS (((encs L).take kk).drop a) = 0 := by simp [dcS, q3]
            rw [q3, hs0, List.length_drop, List.length_take, show min kk (encs L).length - a = kk - a by omega] at hd
            have HD := Lib.hid hd
            have BM := Lib.hid (hB.out.trans (hMB.mono hzb))
            have hz8 : w.heap.size ≤ w7.heap.size := by omega
            clear hd hs0 q1 q2 q3 hrx hM ha hME hMD hMO hMB
            generalize eL L W = ew at *
            generalize dcO (((encs L).take kk).drop a) = OO at *
            generalize dcN (((encs L).take kk).drop a) = NN at *
            go_wp2_with (first
              | (go_at_call 18; refine HD.out.mono ?_; rintro e w8 ⟨rfl, hb8⟩; have hz9 := hb8.size; have HB5 := Lib.hid ((BM.out.trans (hb8.mono hz8)).alloc (by omega) (.cells #[.int .i64 OO, .int .u32 NN] 26)); clear hb8)
              | (go_at_call 11; refine (known_any _ ((HT.out.on HB5.out).up (by simp; omega))).mono ?_; rintro e w9 ⟨rfl, hb9⟩))
            go_ret
            exact ⟨rfl, HB5.out.trans (hb9.mono (by simp; omega))⟩
end Go.Proofs.YtmgjojgjonighaaDoor

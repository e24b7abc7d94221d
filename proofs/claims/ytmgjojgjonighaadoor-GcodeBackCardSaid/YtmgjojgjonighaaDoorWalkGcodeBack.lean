/-
  innkeeperlaw2.GcodeBack returns true: its walk.
-/
import Derived.Test.YtmgjojgjonighaaDoorGc11
import Derived.Test.YtmgjojgjonighaaDoorGk2
import Derived.Test.YtmgjojgjonighaaDoorRow
import Derived.Test.YtmgjojgjonighaaDoorAppR
import Derived.Test.YtmgjojgjonighaaDoorBytes
import Derived.Deep.QuietTactic
import Derived.BigQuiet
import Derived.Outline
import Derived.IntWalk
namespace Go.Proofs.YtmgjojgjonighaaDoor
open Go.RowKit
set_option linter.unusedSimpArgs false
set_option linter.unusedVariables false

theorem bv_one (l : List UInt8) : ∀ u ∈ bv l, u.oneCell' = true := by
  intro u hu
  obtain ⟨b, _, rfl⟩ := List.mem_map.1 hu
  rfl
theorem ivs_len (L : List (Int × Int)) : (ivs L).length = L.length * 2 := by
  induction L with
  | nil => rfl
  | cons p L ih => simp [ivs, iv] at ih ⊢; omega
theorem ivs_one (L : List (Int × Int)) : ∀ u ∈ ivs L, u.oneCell' = true := by
  intro u hu
  obtain ⟨p, _, hp⟩ := List.mem_flatMap.1 hu
  simp [iv] at hp
  rcases hp with rfl | rfl <;> rfl
/-- an empty row, made by the call -/
theorem own_empty (w : World) (B : Nat) (e : TypeId) (sz : Nat) (hB : B ≤ w.heap.size) : (w.alloc (.cells #[] e)).ownsRow B e sz (.slice (some ⟨w.heap.size, 0, none⟩) 0 0) 0 [] :=
  World.ownsRow_made w #[] 0 hB (by unfold maxLen; omega) (by simp)

set_option maxRecDepth 100000 in
set_option maxHeartbeats 2000000 in
theorem gcodeBack_walk (A0 : Option Addr) (len0 cap0 : Nat) (z0 : List Int) (A1 : Option Addr) (len1 cap1 : Nat) (z1 : List Int) (A2 : Option Addr) (len2 cap2 : Nat) (z2 : List Int) (w : World) (w0 : IsRow .i64 w A0 len0 cap0 z0) (w1 : IsRow .u32 w A1 len1 cap1 z1) (w2 : IsRow .u8 w A2 len2 cap2 z2) (ht : Tab w.heap.size w) :
    Calls Tryd.prog 5 #[.slice A0 len0 cap0, .slice A1 len1 cap1, .slice A2 len2 cap2] w fun e w' => e = .returned (.bool true) ∧ Below w.heap.size w w' := by
  obtain ⟨hl0, hc0, hA0, l, rfl, hwl, hrl⟩ := w0.rd
  obtain ⟨hl1, hc1, hA1, n, rfl, hwn, hrn⟩ := w1.rd
  obtain ⟨hl2, hc2, hA2, mo, rfl, hrm⟩ := w2.bytes
  have HT := Lib.hid ht
  have HRL := Lib.hid hrl
  have HRN := Lib.hid hrn
  have HWL := Lib.hid hwl
  have HWN := Lib.hid hwn
  have hcut := cut_any A2 mo.length cap2 9 hl2 hc2 hA2
  have e9 : min mo.length 9 = (mo.take 9).length := by rw [List.length_take]; omega
  rw [e9] at hcut
  have hrm9 : Rd w w.heap.size A2 (bv (mo.take 9)) := by
    have := hrm.take 9
    simpa [bv, List.map_take] using this
  have hm9 : (mo.take 9).length ≤ 9 := by rw [List.length_take]; omega
  have HCUT := Lib.hid hcut
  have HR9 := Lib.hid hrm9
  clear ht hrl hrn hwl hwn w0 w1 w2 hA0 hA1 hA2 hcut hrm9 hrm e9
  generalize mo.take 9 = m9 at *
  unfold maxLen at hc0 hc1
  go_enter Tryd.func5, Tryd.ntmps5
  go_wp2_with fail
  go_loopw [7, 8, 9] (fun b s i wr => ∃ (L : List (Int × Int)) (As : Option Addr) (cs : Nat), b = .slice As L.length cs ∧ s = .int .i64 (encs L).length ∧ i = .int .i64 L.length ∧ L.length ≤ l.length ∧ L.length ≤ 40 ∧ Hid (∀ p ∈ L, Ok2 p)
      ∧ Hid (wr.ownsRow w.heap.size 26 2 (.slice As L.length cs) L.length (ivs L)) ∧ Hid (Below w.heap.size w wr)) (fun _ _ i _ => 40 - (intOf i).toNat)
  case atStart => exact ⟨[], none, 0, rfl, rfl, rfl, by simp, by simp, Lib.hid (by simp), Lib.hid (World.ownsRow_nil _ _ _ _), Below.refl _ _⟩
  case round =>
    obtain ⟨L, As, cs, rfl, rfl, rfl, b1, b2, hL, hO, hB⟩ := hrel
    have hel := (encs_len L hL.out).2
    have hz := hB.out.size
    by_cases hgo : L.length < l.length ∧ L.length < 40
    · obtain ⟨g1, g3⟩ := hgo
      obtain ⟨bl, ol, rfl, hbl, hcl⟩ := HRL.out (by simp; omega)
      have e1 := (hB.out.cell (p := ⟨bl, ol + L.length, none⟩) hbl).trans (hcl L.length (.int .i64 l[L.length]) (by simp [List.getElem?_eq_getElem g1]))
      have f1 := HWL.out _ (List.getElem_mem g1)
      generalize l[L.length] = ln at *
      obtain ⟨nn, f2, f3, hnn⟩ : ∃ nn : Int, 0 ≤ nn ∧ nn < 4294967296 ∧ Hid ((¬ L.length < n.length ∧ nn = L.length) ∨ (L.length < n.length ∧ ∃ bn on, A1 = some ⟨bn, on, none⟩ ∧ bn < w.heap.size ∧ wr.cell? ⟨bn, on + L.length, none⟩ = some (.int .u32 nn))) := by
        by_cases g2 : L.length < n.length
        · obtain ⟨bn, on, rfl, hbn, hcn⟩ := HRN.out (by simp; omega)
          have e2 := (hB.out.cell (p := ⟨bn, on + L.length, none⟩) hbn).trans (hcn L.length (.int .u32 n[L.length]) (by simp [List.getElem?_eq_getElem g2]))
          obtain ⟨f2, f3⟩ := u32_of_wf (HWN.out _ (List.getElem_mem g2))
          exact ⟨_, f2, f3, Lib.hid (.inr ⟨g2, bn, on, rfl, hbn, e2⟩)⟩
        · exact ⟨(L.length : Int), by omega, by omega, Lib.hid (.inl ⟨g2, rfl⟩)⟩
      have hin := instr_any ln nn f1 f2 f3
      have hok := inN_ok (opV ln) nn (opV_sz ln) f2 f3
      generalize inN (opV ln) nn = xn at *
      generalize opV ln = xo at *
      have hszx := size_any xo
      have hecl := ecV_len xo xn (ok_sz hok.1)
      have hec5 : szV xo ≤ 5 := by have := szV_cases xo; omega
      rw [← hecl] at hszx
      have HS := Lib.hid hszx
      have HIN := Lib.hid hin
      have HOK := Lib.hid hok
      clear hcl hin hok f1 hszx
      generalize hecx : (ecV xo xn).length = m at *
      have hm5 : m ≤ 5 := by omega
      have HM := Lib.hid hecx
      have hLen : Hid ((encs (L ++ [(xo, xn)])).length = (encs L).length + m) := by apply Lib.hid; rw [encs_append, List.length_append, encs_cons, encs_nil, List.append_nil, HM.out]
      clear hecx hecl hec5
      rcases hnn.out with ⟨g2, rfl⟩ | ⟨g2, bn, on, rfl, hbn, e2⟩
      all_goals
        clear hnn f2 f3
        go_wp2_with (first
          | (go_at_call 13; refine (HIN.out _).mono ?_; rintro e w3 ⟨rfl, hb3⟩; have O3 := Lib.hid (((own_below hO.out hb3).alloc (.cells #[.int .i64 xo, .int .u32 xn] 26)).alloc (.cells #[.int .i64 xo, .int .u32 xn] 26)); have hz3 := hb3.size; have B3 := Lib.hid (((hB.out.trans (hb3.mono hz)).alloc (by omega) (.cells #[.int .i64 xo, .int .u32 xn] 26)).alloc (by simp; omega) (.cells #[.int .i64 xo, .int .u32 xn] 26)); have L3 := Lib.hid (own_lt (own_below hO.out hb3)); clear hb3)
          | (at_builtin; refine wpList_app rfl (.tmp 49) (.tmp 51) _ rfl w.heap.size 26 _ 2 16 Tryd.underlying35 Tryd.info_instr rfl (by omega) (.slice As L.length cs) L.length (ivs L) rfl O3.out (w3.heap.size + 1) 1 1 _ _ _ rfl (by simpa using heap_alloc_new (w3.alloc (.cells #[.int .i64 xo, .int .u32 xn] 26)) (.cells #[.int .i64 xo, .int .u32 xn] 26)) rfl (by simp [Value.oneCell']) (by omega) (by unfold maxLen; omega) (by omega) (by simp; omega) ?_; intro g4 c4 w4 hx4; have O4 := Lib.hid hx4.own; have B4 := Lib.hid (B3.out.trans (hx4.below (by simp; omega) O3.out)); have q0 := (hx4.cell (p := ⟨w3.heap.size, 0, none⟩) (by simp; omega) (fun g hg => Nat.ne_of_lt (L3.out g hg))).trans (box_two w3 (.int .i64 xo) (.int .u32 xn) 26 26 #[.int .i64 xo, .int .u32 xn]).1; clear hx4)
          | (go_at_call 15; refine (HS.out _).mono ?_; rintro e w' ⟨rfl, rfl⟩))
        go_roundw
        case rel =>
          refine ⟨L ++ [(xo, xn)], some ⟨g4, 0, none⟩, c4, by simp, by rw [hLen.out]; go_num, by simp, by simp; omega, by simp; omega, ?_, ?_, B4⟩
          · apply Lib.hid; intro p hp
            rcases List.mem_append.1 hp with hp | hp
            · exact hL.out p hp
            · obtain rfl := List.mem_singleton.1 hp; exact HOK.out
          · apply Lib.hid
            have h := O4.out
            rw [ivs_append, List.length_append, List.length_singleton]
            simpa [ivs, iv] using h
        case measure => simp [intOf]; omega
    · have hjoin := join_any As cs L (by omega) (fun p hp => (hL.out p hp).2) wr (RdI.of_own hO.out)
      have hend : (l.length ≤ L.length) ∨ (L.length < l.length ∧ 40 ≤ L.length) := by omega
      have HJ := Lib.hid hjoin
      clear hjoin hgo
      rcases hend with g1 | ⟨g1, g2⟩
      all_goals
        go_wp2_with fail
        refine HJ.out.mono ?_
        rintro e w2 ⟨hB2, hJ2, _⟩
        obtain ⟨Ab, cb, rfl, hOb⟩ := hJ2 fun p hp => (hL.out p hp).1
        have hz2 := hB2.size
        have OS := Lib.hid (own_below hO.out hB2)
        have OB := Lib.hid hOb
        have BB := Lib.hid (hB.out.trans (hB2.mono hz))
        have hzb : w.heap.size ≤ w2.heap.size := by omega
        clear hB2 hJ2 hOb
        go_wp2_with (first
          | (at_builtin; refine wpList_app_rd rfl (.tmp 72) (.tmp 73) _ rfl w2.heap.size 5 _ 1 1 Tryd.underlying27 Tryd.info_u8 rfl (by omega) _ 0 [] rfl (own_empty w2 _ _ 1 (Nat.le_refl _)) w2.heap.size Ab (encs L).length cb (bv (encs L)) rfl ((Rd.of_own OB.out).below ((Below.refl _ _).alloc (Nat.le_refl _) _)) (by rw [bv_length]; omega) (bv_one _) (by unfold maxLen; omega) (by omega) (by simp) ?_; intro A3 c3 w3 hx3; have O3 : Hid (w3.ownsRow w2.heap.size 5 1 (.slice A3 (encs L).length c3) (encs L).length (bv (encs L))) := Lib.hid (by simpa using hx3.own); have B3 := Lib.hid (((Below.refl w2.heap.size w2).alloc (Nat.le_refl _) (.cells #[] 5)).trans (hx3.below (by simp) (own_empty w2 _ _ 1 (Nat.le_refl _)))); have hz3 := B3.out.size; clear hx3)
          | (at_builtin; refine wpList_app rfl (.tmp 74) (.tmp 75) _ rfl w2.heap.size 5 _ 1 1 Tryd.underlying27 Tryd.info_u8 rfl (by omega) (.slice A3 (encs L).length c3) (encs L).length (bv (encs L)) rfl (O3.out.alloc _) w3.heap.size 1 1 _ _ _ rfl (heap_alloc_new _ _) rfl (by simp [Value.oneCell']) (by omega) (by unfold maxLen; omega) (by omega) (by simp; omega) ?_; intro g4 c4 w4 hx4; have O4 := Lib.hid hx4.own; have B4 := Lib.hid ((B3.out.alloc hz3 (.cells #[.int .u8 255] 5)).trans (hx4.below (by simp; omega) (O3.out.alloc _))); have hz4 := B4.out.size; clear hx4))
        have e255 : bv (encs L) ++ [.int .u8 255] = bv (encs L ++ [255]) := by rw [bv_append]; rfl
        have o4 : w4.ownsRow w2.heap.size 5 1 (.slice (some ⟨g4, 0, none⟩) (encs L ++ [255]).length c4) (encs L ++ [255]).length (bv (encs L ++ [255])) := by
          rw [← e255, List.length_append, List.length_singleton]; exact O4.out
        have hall := all_any (some ⟨g4, 0, none⟩) c4 (encs L ++ [255]) (own_cap o4).1 (own_cap o4).2 (own_none o4) (by simp; omega) w4 (Rd.of_own o4)
        rw [List.length_append, List.length_singleton] at hall
        have HALL := Lib.hid hall
        clear hall o4 e255 O3 O4 hz3
        refine HALL.out.mono ?_
        rintro e w5 ⟨M, a, A5, c5, rfl, ha, hM, hME, hMD, hMO, hMB⟩
        have hone := all_one M L ((encs L ++ [255]).drop a) [255] hM hL.out (by rw [hME, List.take_append_drop]) hMD (by decide)
        obtain ⟨rfl, hdrop⟩ := hone
        have ha2 : a = (encs M).length := by
          have := congrArg List.length hdrop
          rw [List.length_drop, List.length_append] at this
          simp at this; simp at ha; omega
        subst ha2
        have hz5 := hMB.size
        have B5 := Lib.hid (BB.out.trans ((B4.out.trans (hMB.mono (by omega))).mono hzb))
        have OS5 := Lib.hid (own_below (own_below OS.out B4.out) hMB)
        have OB5 := Lib.hid (own_below (own_below OB.out B4.out) hMB)
        have OM5 := Lib.hid hMO
        have hzw5 : w.heap.size ≤ w5.heap.size := by omega
        clear hMO hMB hME hMD hdrop hM ha
        go_wp2_with fail
        obtain ⟨wo, rfl⟩ : ∃ wo : World, wo = wr := ⟨_, rfl⟩
        go_loopw [16, 17] (fun a i wr => ∃ j : Nat, j ≤ M.length ∧ a = .int .i64 (eL M j : Nat) ∧ i = .int .i64 j ∧ Hid (Below w5.heap.size w5 wr)) (fun _ i _ => M.length - (intOf i).toNat)
        case atStart => exact ⟨0, by omega, by rw [eL_zero]; rfl, rfl, Below.refl _ _⟩
        case round =>
          obtain ⟨j, hj, rfl, rfl, hB6⟩ := hrel
          have hz6 := hB6.out.size
          by_cases hlt : j < M.length
          · obtain ⟨gs, os, rfl, hgs, hcs⟩ := RdI.of_own OS5.out (by omega)
            obtain ⟨gm, om, rfl, hgm, hcm⟩ := RdI.of_own OM5.out (by omega)
            have hok := hL.out M[j] (List.getElem_mem hlt)
            have s1 := (hB6.out.cell (p := ⟨gs, _, none⟩) hgs).trans (hcs j hlt).1
            have s2 := (hB6.out.cell (p := ⟨gs, _, none⟩) hgs).trans (hcs j hlt).2
            have m1 := (hB6.out.cell (p := ⟨gm, _, none⟩) hgm).trans (hcm j hlt).1
            have m2 := (hB6.out.cell (p := ⟨gm, _, none⟩) hgm).trans (hcm j hlt).2
            have hsu := eL_succ M j hlt
            have hle := eL_le M (j + 1)
            have hdr := eL_drop M j
            have hpos := ec_pos _ _ hok.1
            have hd2 : M.drop j = M[j] :: M.drop (j + 1) := List.drop_eq_getElem_cons hlt
            rw [hd2, encs_cons] at hdr
            obtain ⟨x1, x2, x3, x4⟩ := ec_dc M[j].1 M[j].2 hok.1 hok.2.1 hok.2.2 (encs (M.drop (j + 1)) ++ m9)
            have hecl := ecV_len M[j].1 M[j].2 (ok_sz hok.1)
            rw [← hecl] at x4
            rw [← List.append_assoc, ← hdr] at x1 x2 x3 x4
            have HNX := Lib.hid (show (eL M (j + 1) : Nat) = eL M j + (ecV M[j].1 M[j].2).length from hsu)
            clear hcs hcm hd2 hdr hecl hok
            have hat0 : eL M j < (encs M).length := by omega
            generalize hAT1 : eL M (j + 1) = at1 at *
            have HAT1 := Lib.hid hAT1
            clear hAT1
            generalize (ecV M[j].1 M[j].2).length = m at *
            obtain ⟨gb, ob, rfl, hgb, hcb⟩ := Rd.of_own OB5.out (by rw [bv_length]; omega)
            generalize M[j] = q at *
            obtain ⟨xo, xn⟩ := q
            simp only at s1 s2 m1 m2 x2 x3
            have hrd : Rd w5 w5.heap.size (some ⟨gb, ob + eL M j, none⟩) (bv ((encs M).drop (eL M j))) := by
              have h1 := (Rd.of_own OB5.out).drop (eL M j)
              have e : (bv (encs M)).drop (eL M j) = bv ((encs M).drop (eL M j)) := by simp [bv, List.map_drop]
              rw [← e]; exact h1
            have hcap := own_cap OB5.out
            have hca : ¬ cb = eL M j := by omega
            have hcb1 := hcap.1
            have hcb2 := hcap.2
            unfold maxLen at hcb2
            have hlD : ((encs M).drop (eL M j)).length = (encs M).length - eL M j := by rw [List.length_drop]
            generalize (encs M).drop (eL M j) = D at *
            generalize eL M j = at0 at *
            have HRD := Lib.hid hrd
            have HX1 := Lib.hid x1
            have HX2 := Lib.hid x2
            have HX3 := Lib.hid x3
            have HX4 := Lib.hid x4
            have HLD := Lib.hid hlD
            clear hrd x1 x2 x3 x4 hlD hcb hcap hsu
            go_wp2_with (first
              | (at_builtin; refine wpList_app_rd rfl (.tmp 97) (.tmp 100) _ rfl wr.heap.size 5 _ 1 1 Tryd.underlying27 Tryd.info_u8 rfl (by omega) _ 0 [] rfl (own_empty wr _ _ 1 (Nat.le_refl _)) w5.heap.size (some ⟨gb, ob + at0, none⟩) ((encs M).length - at0) (cb - at0) (bv D) rfl ((HRD.out.below hB6.out).below ((Below.refl _ _).alloc hz6 _)) (by rw [bv_length, HLD.out]; omega) (bv_one _) (by unfold maxLen; omega) (by omega) (by simp) ?_; intro A7 c7 w7 hx7; have O7 : Hid (w7.ownsRow wr.heap.size 5 1 (.slice A7 ((encs M).length - at0) c7) ((encs M).length - at0) (bv D)) := Lib.hid (by simpa using hx7.own); have B7 := Lib.hid (((Below.refl wr.heap.size wr).alloc (Nat.le_refl _) (.cells #[] 5)).trans (hx7.below (by simp) (own_empty wr _ _ 1 (Nat.le_refl _)))); have hz7 := B7.out.size; clear hx7)
              | (go_at_call 19; refine (HCUT.out _).mono ?_; rintro e w' ⟨rfl, rfl⟩)
              | (at_builtin; refine wpList_app_rd rfl (.tmp 101) (.tmp 103) _ rfl wr.heap.size 5 _ 1 1 Tryd.underlying27 Tryd.info_u8 rfl (by omega) (.slice A7 ((encs M).length - at0) c7) ((encs M).length - at0) (bv D) rfl O7.out w.heap.size A2 m9.length cap2 (bv m9) rfl (((HR9.out.below B5.out).below (hB6.out.mono hzw5)).below (B7.out.mono (by omega))) (by rw [bv_length]; omega) (bv_one _) (by unfold maxLen; omega) (by omega) hz7 ?_; intro A8 c8 w8 hx8; have O8 := Lib.hid hx8.own; have B8 := Lib.hid (B7.out.trans (hx8.below hz7 O7.out)); have hz8 := B8.out.size; clear hx8))
            have o8 : w8.ownsRow wr.heap.size 5 1 (.slice A8 (D ++ m9).length c8) (D ++ m9).length (bv (D ++ m9)) := by
              rw [List.length_append, HLD.out, bv_append]; exact O8.out
            have hd := decode_any A8 c8 (D ++ m9) (own_cap o8).1 (own_cap o8).2 w8 (Rd.of_own o8)
            rw [List.length_append, HLD.out, HX1.out, HX2.out, HX3.out, HX4.out] at hd
            refine hd.mono ?_
            rintro e w9 ⟨rfl, hb9⟩
            have hz9 := hb9.size
            have B9 := Lib.hid ((hB6.out.trans ((B8.out.trans (hb9.mono hz8)).mono hz6)).alloc (by omega) (.cells #[.int .i64 xo, .int .u32 xn] 26))
            have s1' := ((B8.out.trans (hb9.mono hz8)).cell (p := ⟨gs, _, none⟩) (show gs < wr.heap.size by omega)).trans s1
            have s2' := ((B8.out.trans (hb9.mono hz8)).cell (p := ⟨gs, _, none⟩) (show gs < wr.heap.size by omega)).trans s2
            have m1' := ((B8.out.trans (hb9.mono hz8)).cell (p := ⟨gm, _, none⟩) (show gm < wr.heap.size by omega)).trans m1
            have m2' := ((B8.out.trans (hb9.mono hz8)).cell (p := ⟨gm, _, none⟩) (show gm < wr.heap.size by omega)).trans m2
            have hq1 : gs < w9.heap.size := by omega
            have hq2 : gm < w9.heap.size := by omega
            clear hd o8 O8 s1 s2 m1 m2 hb9 O7 B7 B8
            have hnx : at0 + m ≤ (encs M).length := by have h := HNX.out; omega
            have n1 : decide ((m : Int) < 1) = false := decide_eq_false (by omega)
            have n1' : (m == 0) = false := beq_eq_false_iff_ne.2 (by omega)
            have n2 : IntKind.i64.wrap ((at0 : Int) + (m : Int)) = (at0 : Int) + (m : Int) := IntWalk.i64_in _ (by omega)
            have n3 : decide (((encs M).length : Int) < (at0 : Int) + (m : Int)) = false := decide_eq_false (by omega)
            have n4 : decide ((encs M).length < at0 + m) = false := decide_eq_false (by omega)
            have HAT := Lib.hid (show at0 + m ≤ (encs M).length by omega)
            go_wp2_with fail
            go_quiet (fail)
            clear n1 n1' n2 n3 n4
            go_wp2
            go_roundw
            case rel => exact ⟨j + 1, by omega, by rw [HAT1.out, HNX.out]; go_num, by go_num, Lib.hid (Below_drewN B9.out nq)⟩
            case measure => simp [intOf]; omega
          · have hjM : j = M.length := by omega
            subst hjM
            have hz6b : w.heap.size ≤ wr.heap.size := by omega
            have OS6 := Lib.hid (own_below OS5.out hB6.out)
            have BA := Lib.hid (B5.out.trans (hB6.out.mono hzw5))
            have e1 := eL_all M
            rw [e1]
            clear e1
            go_wp2_with (first
              | (at_builtin; refine wpList_app_rd rfl (.tmp 146) (.tmp 147) _ rfl wr.heap.size 26 _ 2 16 Tryd.underlying35 Tryd.info_instr rfl (by omega) _ 0 [] rfl (own_empty wr _ _ 2 (Nat.le_refl _)) wr.heap.size As M.length cs (ivs M) rfl ((Rd.of_row OS6.out).below ((Below.refl _ _).alloc (Nat.le_refl _) _)) (ivs_len M) (ivs_one M) (by unfold maxLen; omega) (by omega) (by simp) ?_; intro A7 c7 w7 hx7; have O7 : Hid (w7.ownsRow wr.heap.size 26 2 (.slice A7 M.length c7) M.length (ivs M)) := Lib.hid (by simpa using hx7.own); have B7 := Lib.hid (((Below.refl wr.heap.size wr).alloc (Nat.le_refl _) (.cells #[] 26)).trans (hx7.below (by simp) (own_empty wr _ _ 2 (Nat.le_refl _)))); have hz7 := B7.out.size; clear hx7)
              | (at_builtin; refine wpList_app rfl (.tmp 148) (.tmp 150) _ rfl wr.heap.size 26 _ 2 16 Tryd.underlying35 Tryd.info_instr rfl (by omega) (.slice A7 M.length c7) M.length (ivs M) rfl (O7.out.alloc _) w7.heap.size 1 1 _ _ _ rfl (heap_alloc_new _ _) rfl (by simp [Value.oneCell']) (by omega) (by unfold maxLen; omega) (by omega) (by simp; omega) ?_; intro g8 c8 w8 hx8; have O8 := Lib.hid hx8.own; have B8 := Lib.hid ((B7.out.alloc hz7 (.cells #[.int .i64 9, .int .u32 0] 26)).trans (hx8.below (by simp; omega) (O7.out.alloc _))); have hz8 := B8.out.size; clear hx8))
            have o8 : w8.ownsRow wr.heap.size 26 2 (.slice (some ⟨g8, 0, none⟩) (M ++ [(9, 0)]).length c8) (M ++ [(9, 0)]).length (ivs (M ++ [(9, 0)])) := by
              have h := O8.out
              rw [ivs_append, List.length_append, List.length_singleton]
              simpa [ivs, iv] using h
            have hj := join_any (some ⟨g8, 0, none⟩) c8 (M ++ [(9, 0)]) (by simp; omega) (fun p hp => by
              rcases List.mem_append.1 hp with hp | hp
              · exact (hL.out p hp).2
              · obtain rfl := List.mem_singleton.1 hp; simp) w8 (RdI.of_own o8)
            rw [List.length_append, List.length_singleton] at hj
            refine hj.mono ?_
            rintro e w9 ⟨hb9, _, hbad⟩
            obtain rfl := hbad (9, 0) (by simp) (by decide)
            have B9 := Lib.hid (BA.out.trans ((B8.out.trans (hb9.mono hz8)).mono hz6b))
            have hz9 := hb9.size
            clear hj o8 O8 hbad hb9 B8 O7 B7
            go_wp2_with (go_at_call 11; refine (known_any _ ((HT.out.on B9.out).up (by omega))).mono ?_; rintro e w10 ⟨rfl, hb10⟩)
            go_ret
            exact ⟨rfl, B9.out.trans (hb10.mono (by omega))⟩
end Go.Proofs.YtmgjojgjonighaaDoor

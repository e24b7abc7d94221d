/-
  innkeeperlaw4.HmachPlays returns true: its walk.
-/
import Derived.Test.YtaghblcboimbpaaMy
import Derived.BigRegion
import Derived.Outline
namespace Go.Proofs.Ytaghblcboimbpaa
open Go.RowKit
set_option linter.unusedSimpArgs false
set_option linter.unusedVariables false

set_option maxRecDepth 100000 in
set_option maxHeartbeats 8000000 in
theorem hmachPlays_walk (A0 : Option Addr) (len0 cap0 : Nat) (L0 : List Hi) (A1 : Option Addr) (len1 cap1 : Nat) (z1 : List Int) (A2 : Option Addr) (len2 cap2 : Nat) (z2 : List Int) (a3 : Bool) (a4 : Int) (w : World) (w0 : RowI w A0 len0 cap0 L0) (w1 : IsRow .u64 w A1 len1 cap1 z1) (w2 : IsRow .u32 w A2 len2 cap2 z2) (w4 : (Lit.int .i64 a4).wf = true) :
    Calls Try.prog 4 #[.slice A0 len0 cap0, .slice A1 len1 cap1, .slice A2 len2 cap2, .bool a3, .int .i64 a4] w fun e w' => e = .returned (.bool true) ∧ Below w.heap.size w w' := by
  obtain ⟨rfl, hl0, hc0, hA0, hr0, hin⟩ := w0
  obtain ⟨hl1, hc1, hA1, l, hlen, hlw, hrd⟩ := w1.rd
  subst hlen
  obtain ⟨hl2, hc2, hA2, l2, hlen2, hlw2, hrd2⟩ := w2.rd
  subst hlen2
  obtain ⟨b0, b1⟩ := i64_of_wf w4
  have hwi := within_any a4 (-3) 100 b0 b1 (by omega) (by omega) (by omega)
  obtain ⟨x0, x1⟩ := wdV_bd a4 (-3) 100 (by omega)
  generalize wdV a4 (-3) 100 = x at *
  have HWI := Lib.hid hwi
  have HLW := Lib.hid hlw
  have HRD := Lib.hid hrd
  have HLW2 := Lib.hid hlw2
  have HRD2 := Lib.hid hrd2
  have HR0 := Lib.hid hr0
  have HIN := Lib.hid hin
  have HC0 := Lib.hid (show L0.length ≤ maxLen by omega)
  unfold maxLen at hc1 hc2
  obtain ⟨s, hs⟩ : ∃ s, s = w.heap.size := ⟨_, rfl⟩
  clear hwi hlw hrd hlw2 hrd2 hr0 hin hA0 hA1 hA2 hc0 hl0 w1 w2 w4 b0 b1
  have HSZ := Lib.hid hs
  clear hs
  go_enter Try.func4, Try.ntmps4
  go_wp2_with fail
  refine (new_any 8 8 rfl (by omega) (by omega) _).mono ?_
  rintro e w1 ⟨rfl, hb1, hz1, hM1⟩
  rw [← HSZ.out] at hb1 hz1 hM1 ⊢
  have HB1 := Lib.hid hb1
  have HM1 := Lib.hid (hM1 (s + 8) (by omega))
  have HZ1 := Lib.hid hz1
  clear hb1 hM1 hz1
  go_wp2_with fail
  refine (new_any 8 8 rfl (by omega) (by omega) _).mono ?_
  rintro e w2 ⟨rfl, hb2, hz2, hM2⟩
  rw [HZ1.out] at hz2 hM2 ⊢
  have HA2 := Lib.hid (HM1.out.below hb2)
  have HC2 := Lib.hid (hM2 (s + 8) (by omega))
  have HB2 := Lib.hid (HB1.out.trans (hb2.mono (by have := HZ1.out; omega)))
  have HZ2 := Lib.hid (show w2.heap.size = s + 4 by omega)
  clear hb2 hM2 hz2 HB1 HM1 HZ1
  go_wp2_with fail
  refine (rnew_any 8 8 rfl (by omega) (by omega) _).mono ?_
  rintro e w3 ⟨rfl, hb3, hz3, hM3⟩
  rw [HZ2.out] at hz3 hM3 ⊢
  have HA3 := Lib.hid (HA2.out.below hb3)
  have HC3 := Lib.hid (HC2.out.below hb3)
  have HD3 := Lib.hid (hM3 (s + 8) (by omega))
  have HB3 := Lib.hid (HB2.out.trans (hb3.mono (by have := HZ2.out; omega)))
  have HZ3 := Lib.hid (show w3.heap.size = s + 6 by omega)
  clear hb3 hM3 hz3 HB2 HZ2 HA2 HC2
  go_wp2_with fail
  refine (rnew_any 8 8 rfl (by omega) (by omega) _).mono ?_
  rintro e w4 ⟨rfl, hb4, hz4, hM4⟩
  rw [HZ3.out] at hz4 hM4 ⊢
  have HF4 := Lib.hid (show Four s w w4 ⟨s + 1, s, none, 0⟩ ⟨s + 3, s + 2, none, 0⟩ ⟨s + 5, s + 4, none, 0⟩ ⟨s + 7, s + 6, none, 0⟩ (mc0 8) (mc0 8) (mc0 8) (mc0 8) from
    ⟨⟨⟨rfl, rfl⟩, ⟨rfl, rfl⟩, ⟨rfl, rfl⟩, ⟨rfl, rfl⟩⟩, HA3.out.below hb4, HC3.out.below hb4, HD3.out.below hb4, hM4 (s + 8) (by omega), HB3.out.trans (hb4.mono (by have := HZ3.out; omega)), by omega⟩)
  have HZ4 := Lib.hid (show w4.heap.size = s + 8 by omega)
  clear hb4 hM4 hz4 HB3 HZ3 HA3 HC3 HD3
  go_wp2_with fail
  refine (made_any A0 cap0 L0 HC0.out a3 w4 (RdI.more (HR0.out.keep (by rw [← HSZ.out]; exact HF4.out.below)) (by rw [HZ4.out, ← HSZ.out]; omega)) HIN.out).mono ?_
  rintro e w5 ⟨A5, c5, rfl, ho5, hb5⟩
  have hok := md4s_ok a3 L0 HIN.out
  have hlen := md4s_len a3 L0
  generalize md4s a3 L0 = CL at *
  rw [HZ4.out] at ho5
  have hF5 := HF4.out.keep hb5
  have hcp := own_cap ho5
  have HLO := Lib.hid (load_any _ _ _ _ A5 c5 (encs CL) (by rw [encs_len]; exact hcp.1) hcp.2 (by rw [encs_len]; omega) w5 hF5.sz hF5.a (Rd.of_own ho5))
  rw [encs_len] at HLO
  have HF5 := Lib.hid hF5
  have HO5 := Lib.hid ho5
  have HOK := Lib.hid hok
  have HCP := Lib.hid hcp
  clear ho5 hb5 hF5 hcp hok HF4 HZ4 HR0
  go_wp2_with fail
  refine HLO.out.mono ?_
  intro e w6 hld
  obtain ⟨rfl, hT6, Aa, ca, hA6⟩ := hld.enc HOK.out
  have hF6 := HF5.out.toA hT6 hA6 ⟨rfl, rfl⟩
  have hO6 := own_turn HO5.out hT6 (by have := HF5.out.pl.a; omega) (by have := HF5.out.pl.a; omega)
  have HLO2 := Lib.hid (load_any _ _ _ _ A5 c5 (encs CL) (by rw [encs_len]; exact HCP.out.1) HCP.out.2 (by rw [encs_len]; omega) w6 hF6.sz hF6.c (Rd.of_own hO6))
  rw [encs_len] at HLO2
  have HF6 := Lib.hid hF6
  have HO6 := Lib.hid hO6
  clear hld hT6 hA6 hF6 hO6 HLO HF5 HO5
  go_wp2_with fail
  refine HLO2.out.mono ?_
  intro e w7 hld
  obtain ⟨rfl, hT7, Ac, cc, hC7⟩ := hld.enc HOK.out
  have hF7 := HF6.out.toC hT7 hC7 ⟨rfl, rfl⟩
  have hO7 := own_turn HO6.out hT7 (by have := HF6.out.pl.c; omega) (by have := HF6.out.pl.c; omega)
  have HLO3 := Lib.hid (rload_any _ _ _ _ A5 c5 (encs CL) (by rw [encs_len]; exact HCP.out.1) HCP.out.2 (by rw [encs_len]; omega) w7 hF7.sz hF7.b (Rd.of_own hO7))
  rw [encs_len] at HLO3
  have HF7 := Lib.hid hF7
  have HO7 := Lib.hid hO7
  clear hld hT7 hC7 hF7 hO7 HLO2 HF6 HO6
  go_wp2_with fail
  refine HLO3.out.mono ?_
  intro e w8 hld
  obtain ⟨rfl, hT8, Ab, cb, hB8⟩ := hld.enc HOK.out
  have hF8 := HF7.out.toB hT8 hB8 ⟨rfl, rfl⟩
  have hO8 := own_turn HO7.out hT8 (by have := HF7.out.pl.b; omega) (by have := HF7.out.pl.b; omega)
  have HLO4 := Lib.hid (rload_any _ _ _ _ A5 c5 (encs CL) (by rw [encs_len]; exact HCP.out.1) HCP.out.2 (by rw [encs_len]; omega) w8 hF8.sz hF8.d (Rd.of_own hO8))
  rw [encs_len] at HLO4
  have HF8 := Lib.hid hF8
  clear hld hT8 hB8 hF8 hO8 HLO3 HF7 HO7
  go_wp2_with fail
  refine HLO4.out.mono ?_
  intro e w9 hld
  obtain ⟨rfl, hT9, Ad, cd, hD9⟩ := hld.enc HOK.out
  have hF9 : Four s w w9 ⟨s + 1, s, Aa, ca⟩ ⟨s + 3, s + 2, Ac, cc⟩ ⟨s + 5, s + 4, Ab, cb⟩ ⟨s + 7, s + 6, Ad, cd⟩ { mc0 8 with C := CL, p := 0 } { mc0 8 with C := CL, p := 0 } { mc0 8 with C := CL, p := 0 } { mc0 8 with C := CL, p := 0 } := HF8.out.toD hT9 hD9 ⟨rfl, rfl⟩
  have hw8 : ({ mc0 8 with C := CL, p := 0 } : Mc).W.length = 8 := by simp [mc0]
  generalize ({ mc0 8 with C := CL, p := 0 } : Mc) = M0 at *
  have HF9 := Lib.hid hF9
  have HW8 := Lib.hid hw8
  clear hld hT9 hD9 hF9 hw8 HLO4 HF8 HCP HOK
  go_wp2_with fail
  go_loopw [19] (fun i wr => ∃ (k : Nat) (M : Mc), i = .int .i64 k ∧ k ≤ 16 ∧ Hid (M.W.length = 8) ∧ Hid (Four s w wr ⟨s + 1, s, Aa, ca⟩ ⟨s + 3, s + 2, Ac, cc⟩ ⟨s + 5, s + 4, Ab, cb⟩ ⟨s + 7, s + 6, Ad, cd⟩ M M M M)) (fun i _ => 16 - (intOf i).toNat)
  case atStart => exact ⟨0, M0, rfl, by omega, HW8, HF9⟩
  case round =>
    obtain ⟨k, M, rfl, hk, hW, hF⟩ := hrel
    by_cases hgo : k < l.length ∧ k < 16
    · obtain ⟨g1, g2⟩ := hgo
      obtain ⟨bl, ol, rfl, hbl, hcl⟩ := HRD.out (by simpa using (show 0 < l.length by omega))
      rw [← HSZ.out] at hbl
      have e1 := hcl k _ (by rw [List.getElem?_map, List.getElem?_eq_getElem g1]; rfl)
      have q1 := (hF.out.below.cell (p := ⟨bl, _, none⟩) hbl).trans e1
      have hu := u64_of_wf (HLW.out _ (List.getElem_mem g1))
      have hu0 := hu.1
      have HUU := Lib.hid hu
      clear hcl e1 hu
      generalize l[k] = v at *
      obtain ⟨y, hy⟩ : ∃ y, y = if a3 = true then v % 9 else v := ⟨_, rfl⟩
      have hyu : U64 y := by
        rw [hy]
        cases a3
        · exact HUU.out
        · unfold U64; simp only [if_true]; omega
      have HSR := Lib.hid (setReg_any (k : Int) k rfl g2 y hyu wr hF.out.a)
      have HYU := Lib.hid hyu
      clear hyu
      cases a3
      · simp only [Bool.false_eq_true, if_false] at hy
        subst hy
        go_wp2_with fail
        refine HSR.out.mono ?_
        rintro e wa ⟨rfl, hMa, hTa⟩
        have hFa := hF.out.toA hTa hMa ⟨rfl, rfl⟩
        have HFa := Lib.hid hFa
        have HSR2 := Lib.hid (setReg_any (k : Int) k rfl g2 _ HYU.out wa hFa.c)
        clear hMa hTa hFa HSR q1
        go_wp2_with fail
        refine HSR2.out.mono ?_
        rintro e wb ⟨rfl, hMb, hTb⟩
        have hFb := HFa.out.toC hTb hMb ⟨rfl, rfl⟩
        have f1 := hFb.b.reg k g2
        have f2 := hFb.d.reg k g2
        have f3 := hFb.b.fg k
        have f4 := hFb.d.fg k
        have HFc := Lib.hid (hFb.regs k g2 _ HYU.out)
        clear hMb hTb hFb HSR2 HFa
        go_wp2_with fail
        go_region
        go_wp2_with fail
        go_roundw
        case rel => exact ⟨k + 1, { M with R := M.R.set k (y) }, by go_num, by omega, hW, HFc⟩
        case measure => simp [intOf]; omega
      · simp only [if_true] at hy
        subst hy
        go_wp2_with fail
        refine HSR.out.mono ?_
        rintro e wa ⟨rfl, hMa, hTa⟩
        have hFa := hF.out.toA hTa hMa ⟨rfl, rfl⟩
        have HFa := Lib.hid hFa
        have HSR2 := Lib.hid (setReg_any (k : Int) k rfl g2 _ HYU.out wa hFa.c)
        clear hMa hTa hFa HSR q1
        go_wp2_with fail
        refine HSR2.out.mono ?_
        rintro e wb ⟨rfl, hMb, hTb⟩
        have hFb := HFa.out.toC hTb hMb ⟨rfl, rfl⟩
        have f1 := hFb.b.reg k g2
        have f2 := hFb.d.reg k g2
        have f3 := hFb.b.fg k
        have f4 := hFb.d.fg k
        have HFc := Lib.hid (hFb.regs k g2 _ HYU.out)
        clear hMb hTb hFb HSR2 HFa
        go_wp2_with fail
        go_region
        go_wp2_with fail
        go_roundw
        case rel => exact ⟨k + 1, { M with R := M.R.set k (v % 9) }, by go_num, by omega, hW, HFc⟩
        case measure => simp [intOf]; omega
    · have hend : l.length ≤ k ∨ (k < l.length ∧ 16 ≤ k) := by omega
      clear hgo HF9 HW8 HRD HLW
      rcases hend with g1 | ⟨g1, g2⟩
      all_goals
        go_wp2_with fail
        go_loopw [21] (fun i wr => ∃ (k : Nat) (M : Mc), i = .int .i64 k ∧ k ≤ 8 ∧ Hid (M.W.length = 8) ∧ Hid (Four s w wr ⟨s + 1, s, Aa, ca⟩ ⟨s + 3, s + 2, Ac, cc⟩ ⟨s + 5, s + 4, Ab, cb⟩ ⟨s + 7, s + 6, Ad, cd⟩ M M M M)) (fun i _ => 8 - (intOf i).toNat)
        case atStart => exact ⟨0, M, rfl, by omega, hW, hF⟩
        case round =>
          obtain ⟨k, M, rfl, hk, hW, hF⟩ := hrel
          by_cases hgo : k < l2.length ∧ k < 8
          · obtain ⟨g1, g2⟩ := hgo
            obtain ⟨bl, ol, rfl, hbl, hcl⟩ := HRD2.out (by simpa using (show 0 < l2.length by omega))
            rw [← HSZ.out] at hbl
            have e1 := hcl k _ (by rw [List.getElem?_map, List.getElem?_eq_getElem g1]; rfl)
            have q1 := (hF.out.below.cell (p := ⟨bl, _, none⟩) hbl).trans e1
            have hu := u32_of_wf (HLW2.out _ (List.getElem_mem g1))
            have HUU := Lib.hid hu
            generalize l2[k] = v at *
            have HSR := Lib.hid (setWord_any (k : Int) k rfl v hu wr hF.out.a (by rw [hW.out]; exact g2))
            have HE1 := Lib.hid e1
            clear hcl e1 hu
            go_wp2_with fail
            refine HSR.out.mono ?_
            rintro e wa ⟨rfl, hMa, hTa⟩
            have hFa := hF.out.toA hTa hMa ⟨rfl, rfl⟩
            have HFa := Lib.hid hFa
            have q2 := (hFa.below.cell (p := ⟨bl, ol + k, none⟩) hbl).trans HE1.out
            have HSR2 := Lib.hid (setWord_any (k : Int) k rfl v HUU.out wa hFa.c (by rw [hW.out]; exact g2))
            clear hMa hTa hFa HSR q1
            go_wp2_with fail
            refine HSR2.out.mono ?_
            rintro e wb ⟨rfl, hMb, hTb⟩
            have hFb := HFa.out.toC hTb hMb ⟨rfl, rfl⟩
            have q3 := (hFb.below.cell (p := ⟨bl, ol + k, none⟩) hbl).trans HE1.out
            have f0 := hFb.b.cw
            have f0' := hFb.d.cw
            unfold vws at f0 f0'
            rw [hW.out] at f0 f0'
            have f1 := hFb.b.word k (by rw [hW.out]; exact g2)
            have f2 := hFb.d.word k (by rw [hW.out]; exact g2)
            have f3 := hFb.b.fw k
            have f4 := hFb.d.fw k
            have hne : bl ≠ s + 4 := by omega
            have hne2 : bl ≠ s + 6 := by omega
            have HFc := Lib.hid (hFb.words k v HUU.out)
            have HWc := Lib.hid (show ({ M with W := M.W.set k v } : Mc).W.length = 8 by simp [hW.out])
            clear hMb hTb hFb HSR2 HFa q2
            go_wp2_with fail
            go_region
            go_wp2_with fail
            go_roundw
            case rel => exact ⟨k + 1, _, by go_num, by omega, HWc, HFc⟩
            case measure => simp [intOf]; omega
          · have hend : l2.length ≤ k ∨ (k < l2.length ∧ 8 ≤ k) := by omega
            clear hgo
            rcases hend with g1 | ⟨g1, g2⟩
            all_goals
              go_wp2_with fail
              go_loopw [22] (fun i wr => ∃ (k : Nat) (Ma : Mc), i = .int .i64 k ∧ k ≤ 60 ∧ Hid (Four s w wr ⟨s + 1, s, Aa, ca⟩ ⟨s + 3, s + 2, Ac, cc⟩ ⟨s + 5, s + 4, Ab, cb⟩ ⟨s + 7, s + 6, Ad, cd⟩ Ma M Ma M)) (fun i _ => 60 - (intOf i).toNat)
              case atStart => exact ⟨0, M, rfl, by omega, hF⟩
              case round =>
                obtain ⟨j, Ma, rfl, hj, hG⟩ := hrel
                by_cases hj60 : j < 60
                · have HST := Lib.hid (step_any _ _ _ _ wr hG.out.a)
                  have hbd := stR_bd Ma
                  go_wp2_with fail
                  refine HST.out.mono ?_
                  rintro e wa ⟨rfl, hMa, hTa⟩
                  have hFa := hG.out.toA hTa hMa ⟨rfl, rfl⟩
                  have HFa := Lib.hid hFa
                  have HST2 := Lib.hid (rstep_any _ _ _ _ wa hFa.b)
                  have hrb : -1 ≤ stR Ma ∧ stR Ma ≤ 4 := by omega
                  clear hMa hTa hFa HST hbd
                  generalize hrr : stR Ma = rr at *
                  obtain ⟨rr0, rr1⟩ := hrb
                  have HRR := Lib.hid hrr
                  clear hrr
                  go_wp2_with fail
                  refine HST2.out.mono ?_
                  rintro e wb ⟨he, hMb, hTb⟩
                  rw [HRR.out] at he
                  subst he
                  have hFb := HFa.out.toB hTb hMb ⟨rfl, rfl⟩
                  have HFb := Lib.hid hFb
                  have HAL := Lib.hid (alike_any _ _ _ _ _ _ wb hFb.a hFb.b)
                  clear hMb hTb hFb HST2 HFa
                  go_wp2_with fail
                  refine HAL.out.mono ?_
                  rintro e wc ⟨rfl, hbc⟩
                  have HFc := Lib.hid (HFb.out.keep hbc)
                  clear hbc HAL HFb
                  go_wp2_with fail
                  go_roundw
                  case rel => exact ⟨j + 1, stM Ma, by go_num, by omega, HFc⟩
                  case measure => simp [intOf]; omega
                · have HRU := Lib.hid (run_any _ _ _ _ x (by omega) wr hG.out.c)
                  go_wp2_with (go_at_call 20; refine (HWI.out _).mono ?_; rintro e w' ⟨rfl, rfl⟩)
                  refine HRU.out.mono ?_
                  rintro e wa ⟨rfl, hMa, hTa⟩
                  have hFa := hG.out.toC hTa hMa ⟨rfl, rfl⟩
                  have HFa := Lib.hid hFa
                  have HRU2 := Lib.hid (rrun_any _ _ _ _ x (by omega) wa hFa.d)
                  clear hMa hTa hFa HRU
                  generalize hR : rn x.toNat M = R at *
                  obtain ⟨rh, ri, rc, RM⟩ := R
                  have HR := Lib.hid hR
                  clear hR
                  go_wp2_with fail
                  refine HRU2.out.mono ?_
                  rintro e wb ⟨he, hMb, hTb⟩
                  subst he
                  have hFb := HFa.out.toD hTb hMb ⟨rfl, rfl⟩
                  have HFb := Lib.hid hFb
                  have HAL := Lib.hid (alike_any _ _ _ _ _ _ wb hFb.c hFb.d)
                  clear hMb hTb hFb HRU2 HFa
                  go_wp2_with (go_at_call 17; refine HAL.out.mono ?_; rintro e wc ⟨rfl, hbc⟩; have HBC := Lib.hid (HFb.out.below.trans (hbc.mono (by have := HFb.out.sz; omega))); clear hbc HAL)
                  refine (known_any _).mono ?_
                  rintro e wd ⟨rfl, hbd⟩
                  have HBD := Lib.hid (HBC.out.trans (hbd.mono (by have := HBC.out.size; have := HSZ.out; omega)))
                  clear hbd
                  go_wp2_with fail
                  go_ret
                  refine ⟨rfl, ?_⟩
                  rw [← HSZ.out]
                  exact HBD.out
end Go.Proofs.Ytaghblcboimbpaa

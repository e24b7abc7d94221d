/-
  innkeeperlaw4.HmachPieces returns true: its walk.
-/
import Derived.Test.YtaghblcboimbpaaMz
namespace Go.Proofs.Ytaghblcboimbpaa
open Go.RowKit
set_option linter.unusedSimpArgs false
set_option linter.unusedVariables false

set_option maxRecDepth 100000 in
set_option maxHeartbeats 8000000 in
theorem hmachPieces_walk (A0 : Option Addr) (len0 cap0 : Nat) (L0 : List Hi) (A1 : Option Addr) (len1 cap1 : Nat) (z1 : List Int) (a2 : Int) (a3 : Int) (w : World) (w0 : RowI w A0 len0 cap0 L0) (w1 : IsRow .u64 w A1 len1 cap1 z1) (w2 : (Lit.int .i64 a2).wf = true) (w3 : (Lit.int .i64 a3).wf = true) :
    Calls Try.prog 6 #[.slice A0 len0 cap0, .slice A1 len1 cap1, .int .i64 a2, .int .i64 a3] w fun e w' => e = .returned (.bool true) ∧ Below w.heap.size w w' := by
  obtain ⟨rfl, hl0, hc0, hA0, hr0, hin⟩ := w0
  obtain ⟨hl1, hc1, hA1, l, hlen, hlw, hrd⟩ := w1.rd
  subst hlen
  obtain ⟨b0, b1⟩ := i64_of_wf w2
  obtain ⟨d0, d1⟩ := i64_of_wf w3
  have hwi := within_any a2 0 50 b0 b1 (by omega) (by omega) (by omega)
  have hwj := within_any a3 1 50 d0 d1 (by omega) (by omega) (by omega)
  obtain ⟨x0, x1⟩ := wdV_bd a2 0 50 (by omega)
  obtain ⟨y0, y1⟩ := wdV_bd a3 1 50 (by omega)
  generalize wdV a2 0 50 = x at *
  generalize wdV a3 1 50 = y at *
  obtain ⟨n, rfl⟩ := Int.eq_ofNat_of_zero_le x0
  obtain ⟨m, rfl⟩ := Int.eq_ofNat_of_zero_le (show 0 ≤ y by omega)
  have HWI := Lib.hid hwi
  have HWJ := Lib.hid hwj
  have HLW := Lib.hid hlw
  have HRD := Lib.hid hrd
  have HR0 := Lib.hid hr0
  have HIN := Lib.hid hin
  have HC0 := Lib.hid (show L0.length ≤ maxLen by omega)
  unfold maxLen at hc1
  obtain ⟨s, hs⟩ : ∃ s, s = w.heap.size := ⟨_, rfl⟩
  clear hwi hwj hlw hrd hr0 hin hA0 hA1 hc0 hl0 w1 w2 w3 x0 b0 b1 d0 d1
  have HSZ := Lib.hid hs
  clear hs
  go_enter Try.func6, Try.ntmps6
  go_wp2_with fail
  refine (new_any 8 8 rfl (by omega) (by omega) _).mono ?_
  rintro e w1 ⟨rfl, hb1, hz1, hM1⟩
  rw [← HSZ.out] at hb1 hz1 hM1 ⊢
  have HB1 := Lib.hid hb1
  have HM1 := Lib.hid hM1
  have HZ1 := Lib.hid hz1
  clear hb1 hM1 hz1
  go_wp2_with fail
  refine (new_any 8 8 rfl (by omega) (by omega) _).mono ?_
  rintro e w2 ⟨rfl, hb2, hz2, hM2⟩
  have hX := (HM1.out (s + 4) (by rw [HZ1.out]; omega)).below hb2
  have hY := hM2 (s + 4) (by have := HZ1.out; omega)
  rw [HZ1.out] at hz2 hY ⊢
  have HB2 := Lib.hid (HB1.out.trans (hb2.mono (by rw [HZ1.out]; omega)))
  have HX2 := Lib.hid hX
  have HY2 := Lib.hid hY
  have HZ2 := Lib.hid (show w2.heap.size = s + 4 by omega)
  clear hb2 hM2 hX hY hz2 HB1 HM1 HZ1
  go_wp2_with fail
  refine (made_any A0 cap0 L0 HC0.out true w2 (RdI.more (HR0.out.keep (by rw [← HSZ.out]; exact HB2.out)) (by rw [HZ2.out, ← HSZ.out]; omega)) HIN.out).mono ?_
  rintro e w3 ⟨A2, c2, rfl, ho3, hb3⟩
  have hok := md4s_ok true L0 HIN.out
  have hlen := md4s_len true L0
  generalize md4s true L0 = CL at *
  rw [HZ2.out] at ho3
  have hX := HX2.out.below hb3
  have hY := HY2.out.below hb3
  have hB3 := HB2.out.trans (hb3.mono (by rw [HZ2.out]; omega))
  have hs3 : s + 4 ≤ w3.heap.size := by rw [← HZ2.out]; exact hb3.size
  have hcp := own_cap ho3
  have HLO := Lib.hid (load_any _ _ _ _ A2 c2 (encs CL) (by rw [encs_len]; exact hcp.1) hcp.2 (by rw [encs_len]; omega) w3 hs3 hX (Rd.of_own ho3))
  rw [encs_len] at HLO
  have HB3 := Lib.hid hB3
  have HO3 := Lib.hid ho3
  have HOK := Lib.hid hok
  have HCP := Lib.hid hcp
  have HY3 := Lib.hid hY
  have HS3 := Lib.hid hs3
  clear ho3 hb3 hX hY hB3 hcp hs3 hok HX2 HY2 HB2 HZ2 HR0
  go_wp2_with fail
  refine HLO.out.mono ?_
  intro e w4 hld
  obtain ⟨rfl, hT4, A4, c4, hX4⟩ := hld.enc HOK.out
  have hY4 := HY3.out.turn hT4 (by first | (simp; done) | (simp; omega) | omega) (by first | (simp; done) | (simp; omega) | omega) (by first | (simp; done) | (simp; omega) | omega) (by first | (simp; done) | (simp; omega) | omega) (by first | (simp; done) | (simp; omega) | omega) (by first | (simp; done) | (simp; omega) | omega)
  have hB4 := turn_below hT4 HB3.out (by have := HS3.out; omega) (by first | (simp; done) | (simp; omega) | omega) (by first | (simp; done) | (simp; omega) | omega)
  have ho4 := own_turn HO3.out hT4 (by first | (simp; done) | (simp; omega) | omega) (by first | (simp; done) | (simp; omega) | omega)
  have hs4 := Nat.le_trans HS3.out hT4.size
  have HLO2 := Lib.hid (load_any _ _ _ _ A2 c2 (encs CL) (by rw [encs_len]; exact HCP.out.1) HCP.out.2 (by rw [encs_len]; omega) w4 hs4 hY4 (Rd.of_own ho4))
  rw [encs_len] at HLO2
  have HX4 := Lib.hid hX4
  have HB4 := Lib.hid hB4
  have HS4 := Lib.hid hs4
  clear hld hT4 hX4 hY4 hB4 ho4 hs4 HLO HB3 HS3 HY3 HO3
  go_wp2_with fail
  refine HLO2.out.mono ?_
  intro e w5 hld
  obtain ⟨rfl, hT5, A5, c5, hY5⟩ := hld.enc HOK.out
  have hX5 := HX4.out.turn hT5 (by first | (simp; done) | (simp; omega) | omega) (by first | (simp; done) | (simp; omega) | omega) (by first | (simp; done) | (simp; omega) | omega) (by first | (simp; done) | (simp; omega) | omega) (by first | (simp; done) | (simp; omega) | omega) (by first | (simp; done) | (simp; omega) | omega)
  have hB5 := turn_below hT5 HB4.out (by have := HS4.out; omega) (by first | (simp; done) | (simp; omega) | omega) (by first | (simp; done) | (simp; omega) | omega)
  have HS5 := Lib.hid (Nat.le_trans HS4.out hT5.size)
  have HX5 := Lib.hid (show IsM .u32 62 (s + 4) w5 ⟨s + 1, s, A4, c4⟩ { mc0 8 with C := CL, p := 0 } from hX5)
  have HY5 := Lib.hid (show IsM .u32 62 (s + 4) w5 ⟨s + 3, s + 2, A5, c5⟩ { mc0 8 with C := CL, p := 0 } from hY5)
  have HB5 := Lib.hid hB5
  clear hld hT5 hX5 hY5 hB5 HLO2 HB4 HX4 HS4 HCP
  generalize ({ mc0 8 with C := CL, p := 0 } : Mc) = M0 at *
  go_wp2_with fail
  go_loopw [14] (fun i wr => ∃ (k : Nat) (M : Mc), i = .int .i64 k ∧ k ≤ 16 ∧ Hid (IsM .u32 62 (s + 4) wr ⟨s + 1, s, A4, c4⟩ M) ∧ Hid (IsM .u32 62 (s + 4) wr ⟨s + 3, s + 2, A5, c5⟩ M) ∧ Hid (Below s w wr) ∧ Hid (s + 4 ≤ wr.heap.size)) (fun i _ => 16 - (intOf i).toNat)
  case atStart => exact ⟨0, M0, rfl, by omega, HX5, HY5, HB5, HS5⟩
  case round =>
    obtain ⟨k, M, rfl, hk, hX, hY, hB, hS⟩ := hrel
    by_cases hgo : k < l.length ∧ k < 16
    · obtain ⟨g1, g2⟩ := hgo
      obtain ⟨bl, ol, rfl, hbl, hcl⟩ := HRD.out (by simpa using (show 0 < l.length by omega))
      rw [← HSZ.out] at hbl
      have e1 := hcl k _ (by rw [List.getElem?_map, List.getElem?_eq_getElem g1]; rfl)
      have q1 := (hB.out.cell (p := ⟨bl, _, none⟩) hbl).trans e1
      have hu := u64_of_wf (HLW.out _ (List.getElem_mem g1))
      have hu0 := hu.1
      clear hcl e1 hu
      generalize l[k] = v at *
      have hv7 : U64 (v % 7) := by unfold U64; omega
      have HSR := Lib.hid (setReg_any (k : Int) k rfl g2 (v % 7) hv7 wr hX.out)
      have HV7 := Lib.hid hv7
      clear hv7
      go_wp2_with fail
      refine HSR.out.mono ?_
      rintro e w6 ⟨rfl, hX6, hT6⟩
      have hY6 := hY.out.turn hT6 (by first | (simp; done) | (simp; omega) | omega) (by first | (simp; done) | (simp; omega) | omega) (by first | (simp; done) | (simp; omega) | omega) (by first | (simp; done) | (simp; omega) | omega) (by first | (simp; done) | (simp; omega) | omega) (by first | (simp; done) | (simp; omega) | omega)
      have HB6 := Lib.hid (turn_below hT6 hB.out (by have := hS.out; omega) (by first | (simp; done) | (simp; omega) | omega) (by first | (simp; done) | (simp; omega) | omega))
      have HS6 := Lib.hid (Nat.le_trans hS.out hT6.size)
      have HSR2 := Lib.hid (setReg_any (k : Int) k rfl g2 (v % 7) HV7.out w6 hY6)
      have q2 := (HB6.out.cell (p := ⟨bl, ol + k, none⟩) hbl).trans ((hB.out.cell (p := ⟨bl, ol + k, none⟩) hbl).symm.trans q1)
      have HX6 := Lib.hid hX6
      clear hX6 hY6 hT6 HSR q1
      go_wp2_with fail
      refine HSR2.out.mono ?_
      rintro e w7 ⟨rfl, hY7, hT7⟩
      have hX7 := HX6.out.turn hT7 (by first | (simp; done) | (simp; omega) | omega) (by first | (simp; done) | (simp; omega) | omega) (by first | (simp; done) | (simp; omega) | omega) (by first | (simp; done) | (simp; omega) | omega) (by first | (simp; done) | (simp; omega) | omega) (by first | (simp; done) | (simp; omega) | omega)
      have HB7 := Lib.hid (turn_below hT7 HB6.out (by have := HS6.out; omega) (by first | (simp; done) | (simp; omega) | omega) (by first | (simp; done) | (simp; omega) | omega))
      have HS7 := Lib.hid (Nat.le_trans HS6.out hT7.size)
      have HX7 := Lib.hid hX7
      have HY7 := Lib.hid hY7
      clear hX7 hY7 hT7 HSR2 HX6
      go_wp2_with fail
      go_roundw
      case rel => exact ⟨k + 1, _, by go_num, by omega, HX7, HY7, HB7, HS7⟩
      case measure => simp [intOf]; omega
    · have hend : l.length ≤ k ∨ (k < l.length ∧ 16 ≤ k) := by omega
      have HEND := Lib.hid hend
      clear hgo hend
      have HADD := Lib.hid (rn_add n m (by omega) M)
      have hend2 := rn_end n m (by omega) M
      have hc1' := rn_cnt n M
      have hc2' := rn_cnt m (rn n M).m
      have HR1 := Lib.hid (run_any _ _ _ _ (n : Int) (by omega) wr hX.out)
      have en : (n : Int).toNat = n := by omega
      have em : (m : Int).toNat = m := by omega
      have emn : ((n : Int) + (m : Int)).toNat = n + m := by omega
      rw [en] at HR1
      have HEM := Lib.hid em
      have HEMN := Lib.hid emn
      clear en em emn HX5 HY5 HB5 HS5
      generalize hr1 : rn n M = R1 at *
      have HRR1 := Lib.hid hr1
      clear hr1
      have hrest : ∃ R2 : Rn, R2 = rn m R1.m := ⟨_, rfl⟩
      obtain ⟨R2, hr2⟩ := hrest
      rw [← hr2] at hend2 hc2' HADD
      have HRR2 := Lib.hid hr2
      clear hr2
      obtain ⟨h1, i1, k1, M1⟩ := R1
      obtain ⟨h2, i2, k2, M2⟩ := R2
      simp only at hend2 hc1' hc2'
      have hk1 : (k1 : Int) ≤ 50 := by omega
      have hk2 : (k2 : Int) ≤ 50 := by omega
      clear hc1' hc2'
      have HE2 := Lib.hid hend2
      clear hend2
      have hcase : (h1 = 5 ∨ (h1 ≠ 5 ∧ h2 = h1 ∧ k2 = 0)) := by
        rcases HE2.out with h | ⟨h, h'⟩
        · exact .inl h
        · by_cases h5 : h1 = 5
          · exact .inl h5
          · exact .inr ⟨h5, h, h'⟩
      clear HE2
      have hcase2 : (h1 = 5 ∧ (h1 != 5) = false) ∨ ((h1 != 5) = true ∧ h2 = h1 ∧ ((k2 : Int) != 0) = false) := by
        rcases hcase with h | ⟨h, h', h''⟩
        · left; exact ⟨h, by rw [h]; rfl⟩
        · right; exact ⟨by rw [bne_iff_ne]; exact h, h', by rw [h'']; rfl⟩
      have HCASE := Lib.hid hcase2
      have HM2 : ∃ M', M' = M2 := ⟨_, rfl⟩
      clear hcase hcase2
      have hboth := HEND.out
      clear HEND
      rcases HCASE.out with ⟨rfl, hh5⟩ | ⟨hh5, rfl, hk0⟩ <;> clear HCASE <;> rcases hboth with g1 | ⟨g1, g2⟩
      all_goals
        go_wp2_with (first
          | (go_at_call 20; with_reducible refine (HWI.out _).mono ?_; rintro e w' ⟨rfl, rfl⟩)
          | (go_at_call 20; with_reducible refine (HWJ.out _).mono ?_; rintro e w' ⟨rfl, rfl⟩))
        refine HR1.out.mono ?_
        rintro e w6 ⟨rfl, hX6, hT6⟩
        have hY6 := hY.out.turn hT6 (by first | (simp; done) | (simp; omega) | omega) (by first | (simp; done) | (simp; omega) | omega) (by first | (simp; done) | (simp; omega) | omega) (by first | (simp; done) | (simp; omega) | omega) (by first | (simp; done) | (simp; omega) | omega) (by first | (simp; done) | (simp; omega) | omega)
        have HB6 := Lib.hid (turn_below hT6 hB.out (by have := hS.out; omega) (by first | (simp; done) | (simp; omega) | omega) (by first | (simp; done) | (simp; omega) | omega))
        have HS6 := Lib.hid (Nat.le_trans hS.out hT6.size)
        have hru2 := run_any _ _ _ _ (m : Int) (by omega) w6 hX6
        rw [HEM.out] at hru2
        simp only [← HRR2.out] at hru2
        have HR2 := Lib.hid hru2
        have HY6 := Lib.hid hY6
        clear hX6 hT6 hY6 hru2 HR1
        go_wp2_with fail
        refine HR2.out.mono ?_
        rintro e w7 ⟨rfl, hX7, hT7⟩
        have hY7 := HY6.out.turn hT7 (by first | (simp; done) | (simp; omega) | omega) (by first | (simp; done) | (simp; omega) | omega) (by first | (simp; done) | (simp; omega) | omega) (by first | (simp; done) | (simp; omega) | omega) (by first | (simp; done) | (simp; omega) | omega) (by first | (simp; done) | (simp; omega) | omega)
        have HB7 := Lib.hid (turn_below hT7 HB6.out (by have := HS6.out; omega) (by first | (simp; done) | (simp; omega) | omega) (by first | (simp; done) | (simp; omega) | omega))
        have HS7 := Lib.hid (Nat.le_trans HS6.out hT7.size)
        have hru3 := run_any _ _ _ _ ((n : Int) + (m : Int)) (by omega) w7 hY7
        rw [HEMN.out, HADD.out] at hru3
        have HX7 := Lib.hid hX7
        have HR3 := Lib.hid hru3
        clear hX7 hT7 hY7 hru3 HR2 HY6 HB6 HS6
        go_wp2_with fail
        refine HR3.out.mono ?_
        rintro e w8 ⟨rfl, hY8, hT8⟩
        have hX8 := HX7.out.turn hT8 (by first | (simp; done) | (simp; omega) | omega) (by first | (simp; done) | (simp; omega) | omega) (by first | (simp; done) | (simp; omega) | omega) (by first | (simp; done) | (simp; omega) | omega) (by first | (simp; done) | (simp; omega) | omega) (by first | (simp; done) | (simp; omega) | omega)
        have HB8 := Lib.hid (turn_below hT8 HB7.out (by have := HS7.out; omega) (by first | (simp; done) | (simp; omega) | omega) (by first | (simp; done) | (simp; omega) | omega))
        have HX8 := Lib.hid (show IsM .u32 62 (s + 4) w8 ⟨s + 1, s, A4, c4⟩ M2 from hX8)
        have HY8 := Lib.hid (show IsM .u32 62 (s + 4) w8 ⟨s + 3, s + 2, A5, c5⟩ M2 from hY8)
        simp only [Rn.more]
        clear hX8 hY8 hT8 HR3 HX7 HB7 HS7
        go_wp2_with fail
        go_loop [26] (fun i => ∃ j : Nat, j ≤ 16 ∧ i = .int .i64 j) (fun i => 16 - (intOf i).toNat)
        case atStart => exact ⟨0, by omega, rfl⟩
        case round =>
          obtain ⟨j, hj, rfl⟩ := hrel
          by_cases hj16 : j < 16
          · have HRX := Lib.hid (reg_any (j : Int) w8 HX8.out)
            have HRY := Lib.hid (reg_any (j : Int) w8 HY8.out)
            generalize M2.reg (j : Int) = rv at *
            go_wp2_with fail
            refine HRX.out.mono ?_
            rintro e w9 ⟨rfl, rfl⟩
            go_wp2_with fail
            refine HRY.out.mono ?_
            rintro e w9 ⟨rfl, rfl⟩
            go_wp2_with fail
            go_round
            case rel => exact ⟨j + 1, by omega, by go_num⟩
            case measure => simp [intOf]; omega
          · have hj17 : j = 16 := by omega
            subst hj17
            go_wp2_with fail
            go_loop [27] (fun i => ∃ j : Nat, j ≤ 8 ∧ i = .int .i64 j) (fun i => 8 - (intOf i).toNat)
            case atStart => exact ⟨0, by omega, rfl⟩
            case round =>
              obtain ⟨j, hj, rfl⟩ := hrel
              by_cases hj8 : j < 8
              · have HRX := Lib.hid (word_any (j : Int) w8 HX8.out)
                have HRY := Lib.hid (word_any (j : Int) w8 HY8.out)
                generalize M2.word (j : Int) = rv at *
                go_wp2_with fail
                refine HRX.out.mono ?_
                rintro e w9 ⟨rfl, rfl⟩
                go_wp2_with fail
                refine HRY.out.mono ?_
                rintro e w9 ⟨rfl, rfl⟩
                go_wp2_with fail
                go_round
                case rel => exact ⟨j + 1, by omega, by go_num⟩
                case measure => simp [intOf]; omega
              · have hj17 : j = 8 := by omega
                subst hj17
                have HAX := Lib.hid (at_any w8 HX8.out)
                have HAY := Lib.hid (at_any w8 HY8.out)
                generalize M2.p = pv at *
                go_wp2_with fail
                refine HAX.out.mono ?_
                rintro e w9 ⟨rfl, rfl⟩
                go_wp2_with fail
                refine HAY.out.mono ?_
                rintro e w9 ⟨rfl, rfl⟩
                go_wp2_with (go_at_call 19; refine (known_any _).mono ?_; rintro e w9 ⟨rfl, hb9⟩)
                go_ret
                refine ⟨rfl, ?_⟩
                rw [← HSZ.out]
                exact HB8.out.trans (hb9.mono (by have := HB8.out.size; have := HSZ.out; omega))
end Go.Proofs.Ytaghblcboimbpaa

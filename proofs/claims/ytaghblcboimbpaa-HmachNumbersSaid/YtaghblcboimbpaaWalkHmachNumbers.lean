/-
  innkeeperlaw4.HmachNumbers returns true: its walk.
-/
import Derived.Test.YtaghblcboimbpaaMx
import Derived.BigRegion
import Derived.Outline
namespace Go.Proofs.Ytaghblcboimbpaa
open Go.RowKit
set_option linter.unusedSimpArgs false
set_option linter.unusedVariables false

set_option maxRecDepth 100000 in
set_option maxHeartbeats 8000000 in
theorem hmachNumbers_walk (w : World) :
    Calls Try.prog 3 #[] w fun e w' => e = .returned (.bool true) ∧ Below w.heap.size w w' := by
  have kb := Blk.new w 3 #[.int .i64 (-1), .int .i64 0, .int .i64 1, .int .i64 65536, .int .i64 65537]
  have hbw : Below w.heap.size w (w.alloc (.cells #[.int .i64 (-1), .int .i64 0, .int .i64 1, .int .i64 65536, .int .i64 65537] 3)) := (Below.refl _ _).alloc (Nat.le_refl _) _
  have HKB := Lib.hid kb
  have HBW := Lib.hid hbw
  clear kb hbw
  go_enter Try.func3, Try.ntmps3
  go_wp2_with fail
  go_loopw [21] (fun i wr => ∃ k : Nat, i = .int .i64 k ∧ k ≤ 5 ∧ Hid (Blk wr w.heap.size 3 #[.int .i64 (-1), .int .i64 0, .int .i64 1, .int .i64 65536, .int .i64 65537]) ∧ Hid (Below w.heap.size w wr)) (fun i _ => 5 - (intOf i).toNat)
  case atStart => exact ⟨0, rfl, by omega, HKB, HBW⟩
  case round =>
    obtain ⟨k, rfl, hk, hK, hB⟩ := hrel
    by_cases hk5 : k < 5
    · have hc := hK.out.cell k
      have hkk : k = 0 ∨ k = 1 ∨ k = 2 ∨ k = 3 ∨ k = 4 := by omega
      have hcase : ∃ N : Int, (#[.int .i64 (-1), .int .i64 0, .int .i64 1, .int .i64 65536, .int .i64 65537] : Array Value)[k]? = some (.int .i64 N) ∧ ((decide (1 ≤ N) && decide (N ≤ 65536)) = true ∧ (∃ n : Nat, N = n ∧ 1 ≤ n ∧ n ≤ 65536) ∨ (decide (1 ≤ N) && decide (N ≤ 65536)) = false ∧ (N < 1 ∨ 65536 < N)) := by
        rcases hkk with rfl | rfl | rfl | rfl | rfl
        · exact ⟨-1, rfl, .inr (by decide)⟩
        · exact ⟨0, rfl, .inr (by decide)⟩
        · exact ⟨1, rfl, .inl ⟨by decide, 1, rfl, by omega, by omega⟩⟩
        · exact ⟨65536, rfl, .inl ⟨by decide, 65536, rfl, by omega, by omega⟩⟩
        · exact ⟨65537, rfl, .inr (by decide)⟩
      obtain ⟨N, hN, hcase⟩ := hcase
      rw [hN] at hc
      clear hN hkk
      rcases hcase with ⟨hd, n, hNn, n0, n1⟩ | ⟨hd, hbad⟩
      · subst hNn
        have HNW := Lib.hid (new_any _ n rfl n0 n1 wr)
        clear hd
        go_wp2_with fail
        refine HNW.out.mono ?_
        rintro e w1 ⟨rfl, hb1, _⟩
        have hK1 := Lib.hid (hK.out.below hb1 hK.out.lt)
        have hB1 := Lib.hid (hB.out.trans (hb1.mono hB.out.size))
        clear hb1 HNW
        go_wp2_with fail
        go_roundw
        case rel => exact ⟨k + 1, by go_num, by omega, hK1, hB1⟩
        case measure => simp [intOf]; omega
      · have HNW := Lib.hid (new_bad N hbad wr)
        clear hd
        rcases hbad with hbad | hbad
        · have hd1 : decide (1 ≤ N) = false := by simp; omega
          go_wp2_with fail
          refine HNW.out.mono ?_
          rintro e w1 ⟨rfl, rfl⟩
          go_wp2_with fail
          go_roundw
          case rel => exact ⟨k + 1, by go_num, by omega, hK, hB⟩
          case measure => simp [intOf]; omega
        · have hd1 : 1 ≤ N := by omega
          have hd2 : decide (N ≤ 65536) = false := by simp; omega
          go_wp2_with fail
          refine HNW.out.mono ?_
          rintro e w1 ⟨rfl, rfl⟩
          go_wp2_with fail
          go_roundw
          case rel => exact ⟨k + 1, by go_num, by omega, hK, hB⟩
          case measure => simp [intOf]; omega
    · clear hK
      have hk55 : (k : Int) = 5 := by omega
      rw [hk55]
      clear hk55 hk5
      have hkn := (Blk.new wr 27 nums)
      have HKN := Lib.hid hkn
      have HBN := Lib.hid (hB.out.alloc hB.out.size (.cells nums 27))
      unfold nums at HKN HBN
      clear hkn hB HKB HBW hk
      go_wp2_with fail
      obtain ⟨W0, rfl⟩ : ∃ wo : World, wo = wr := ⟨_, rfl⟩
      go_loopw [7] (fun i wr => ∃ o : Nat, i = .int .i64 o ∧ o ≤ 20 ∧ Hid (Blk wr W0.heap.size 27 nums) ∧ Hid (Below w.heap.size w wr)) (fun i _ => 20 - (intOf i).toNat)
      case atStart => exact ⟨0, rfl, by omega, HKN, HBN⟩
      case round =>
        obtain ⟨o, rfl, ho, hK, hB⟩ := hrel
        clear HKN HBN
        by_cases ho20 : o < 20
        · have hod : decide ((o : Int) ≤ 19) = true := by simp; omega
          obtain ⟨W1, rfl⟩ : ∃ wo : World, wo = wr := ⟨_, rfl⟩
          go_wp2_with fail
          go_loopw [8] (fun i wr => ∃ i1 : Nat, i = .int .i64 i1 ∧ i1 ≤ 9 ∧ Hid (Blk wr W0.heap.size 27 nums) ∧ Hid (Below w.heap.size w wr)) (fun i _ => 9 - (intOf i).toNat)
          case atStart => exact ⟨0, rfl, by omega, hK, hB⟩
          case round =>
            obtain ⟨i1, rfl, hi1, hK1, hB1⟩ := hrel
            clear hK hB
            by_cases hi9 : i1 < 9
            · have hid : decide ((i1 : Int) < 9) = true := by simp; omega
              obtain ⟨W2, rfl⟩ : ∃ wo : World, wo = wr := ⟨_, rfl⟩
              go_wp2_with fail
              go_loopw [9] (fun i wr => ∃ k1 : Nat, i = .int .i64 k1 ∧ k1 ≤ 9 ∧ Hid (Blk wr W0.heap.size 27 nums) ∧ Hid (Below w.heap.size w wr)) (fun i _ => 9 - (intOf i).toNat)
              case atStart => exact ⟨0, rfl, by omega, hK1, hB1⟩
              case round =>
                obtain ⟨k1, rfl, hk1, hK2, hB2⟩ := hrel
                clear hK1 hB1
                by_cases hk9 : k1 < 9
                · obtain ⟨u, hu, hnu⟩ := nums_at i1 hi9
                  obtain ⟨v, hv, hnv⟩ := nums_at k1 hk9
                  obtain ⟨s, hs⟩ : ∃ s, s = wr.heap.size := ⟨_, rfl⟩
                  have hns : W0.heap.size < s := by rw [hs]; exact hK2.out.lt
                  have hin := numL_in (o : Int) (k1 : Int) (by omega) (by omega)
                  have HSZ := Lib.hid hs
                  have HU := Lib.hid hu
                  have HV := Lib.hid hv
                  have HNU := Lib.hid hnu
                  have HNV := Lib.hid hnv
                  have HIN := Lib.hid hin
                  clear hs hu hv hnu hnv hin
                  go_wp2_with fail
                  refine (new_any 4 4 rfl (by omega) (by omega) _).mono ?_
                  rintro e w1 ⟨rfl, hb1, hz1, hM1⟩
                  rw [← HSZ.out] at hb1 hz1 hM1 ⊢
                  have HB1 := Lib.hid hb1
                  have HM1 := Lib.hid (hM1 (s + 4) (by omega))
                  have HZ1 := Lib.hid hz1
                  clear hb1 hM1 hz1
                  go_wp2_with fail
                  refine (rnew_any 4 4 rfl (by omega) (by omega) _).mono ?_
                  rintro e w2 ⟨rfl, hb2, hz2, hM2⟩
                  rw [HZ1.out] at hz2 hM2 ⊢
                  have HF2 := Lib.hid (show Two s wr w2 ⟨s + 1, s, none, 0⟩ ⟨s + 3, s + 2, none, 0⟩ (mc0 4) (mc0 4) from ⟨⟨rfl, rfl⟩, ⟨rfl, rfl⟩, HM1.out.below hb2, hM2 (s + 4) (by omega), HB1.out.trans (hb2.mono (by have := HZ1.out; omega)), by omega⟩)
                  have HZ2 := Lib.hid (show w2.heap.size = s + 4 by omega)
                  have HRD := Lib.hid (numRd w2 35 (o : Int) (k1 : Int))
                  clear hb2 hM2 hz2 HB1 HZ1 HM1
                  go_wp2_with fail
                  refine (made_any (some ⟨w2.heap.size, 0, none⟩) 2 [⟨(o : Int), 1, 2, 3, (k1 : Int)⟩, ⟨19, 0, 0, 0, 9⟩] (by simp [maxLen]) false _ HRD.out HIN.out).mono ?_
                  rintro e w3 ⟨A3, c3, rfl, ho3, hb3⟩
                  have hok := md4s_ok false _ HIN.out
                  have hlen := md4s_len false [⟨(o : Int), 1, 2, 3, (k1 : Int)⟩, ⟨19, 0, 0, 0, 9⟩]
                  generalize md4s false [⟨(o : Int), 1, 2, 3, (k1 : Int)⟩, ⟨19, 0, 0, 0, 9⟩] = CL at *
                  have ho3' := own_mono ho3 (B' := s + 4) (by simp [HZ2.out])
                  have hF3 := HF2.out.keep (((Below.refl _ _).alloc (Nat.le_refl _) _).trans (hb3.mono (by simp)))
                  have hcp := own_cap ho3
                  have HLO := Lib.hid (load_any _ _ _ _ A3 c3 (encs CL) (by rw [encs_len]; exact hcp.1) hcp.2 (by rw [encs_len]; omega) w3 hF3.sz hF3.a (Rd.of_own ho3))
                  rw [encs_len] at HLO
                  have HF3 := Lib.hid hF3
                  have HO3 := Lib.hid ho3'
                  have HOK := Lib.hid hok
                  have HCP := Lib.hid hcp
                  clear ho3 ho3' hb3 hF3 hcp hok HF2 HZ2 HRD HIN
                  go_wp2_with fail
                  refine HLO.out.mono ?_
                  intro e w4 hld
                  obtain ⟨rfl, hT4, Aa, ca, hA4⟩ := hld.enc HOK.out
                  have hF4 := HF3.out.toA hT4 hA4 ⟨rfl, rfl⟩
                  have hO4 := own_turn HO3.out hT4 (by have := HF3.out.pa; omega) (by have := HF3.out.pa; omega)
                  have HLO2 := Lib.hid (rload_any _ _ _ _ A3 c3 (encs CL) (by rw [encs_len]; exact HCP.out.1) HCP.out.2 (by rw [encs_len]; omega) w4 hF4.sz hF4.b (Rd.of_own hO4))
                  rw [encs_len] at HLO2
                  have HF4 := Lib.hid hF4
                  clear hld hT4 hA4 hF4 hO4 HLO HF3 HO3
                  go_wp2_with fail
                  refine HLO2.out.mono ?_
                  intro e w5 hld
                  obtain ⟨rfl, hT5, Ab, cb, hB5⟩ := hld.enc HOK.out
                  have hF5 : Two s wr w5 ⟨s + 1, s, Aa, ca⟩ ⟨s + 3, s + 2, Ab, cb⟩ { mc0 4 with C := CL, p := 0 } { mc0 4 with C := CL, p := 0 } := HF4.out.toB hT5 hB5 ⟨rfl, rfl⟩
                  have hw4 : ({ mc0 4 with C := CL, p := 0 } : Mc).W.length = 4 := by simp [mc0]
                  generalize ({ mc0 4 with C := CL, p := 0 } : Mc) = M0 at *
                  have HF5 := Lib.hid hF5
                  have HW4 := Lib.hid hw4
                  have q5 := (hF5.below.cell (p := ⟨W0.heap.size, i1, none⟩) hns).trans ((hK2.out.cell i1).trans HNU.out)
                  have HS5 := Lib.hid (setReg_any 2 2 rfl (by omega) u HU.out w5 hF5.a)
                  clear hld hT5 hB5 hF5 hw4 HLO2 HF4 HCP HOK
                  go_wp2_with fail
                  refine HS5.out.mono ?_
                  rintro e w6 ⟨rfl, hM6, hT6⟩
                  have hF6 := HF5.out.toA hT6 hM6 ⟨rfl, rfl⟩
                  have q6 := (hF6.below.cell (p := ⟨W0.heap.size, k1, none⟩) hns).trans ((hK2.out.cell k1).trans HNV.out)
                  have HF6 := Lib.hid hF6
                  have HS6 := Lib.hid (setReg_any 3 3 rfl (by omega) v HV.out w6 hF6.a)
                  clear hM6 hT6 hF6 HS5 HF5 q5
                  go_wp2_with fail
                  refine HS6.out.mono ?_
                  rintro e w7 ⟨rfl, hM7, hT7⟩
                  have hF7 := HF6.out.toA hT7 hM7 ⟨rfl, rfl⟩
                  have HF7 := Lib.hid hF7
                  have HS7 := Lib.hid (fun (g : Nat) => setReg_no (P := ⟨s + 1, s, Aa, ca⟩) 16 1 (by simp [rg]) w7)
                  have HS8 := Lib.hid (setWord_no 4 1 w7 hF7.a (by simp [wo, HW4.out]))
                  have HS9 := Lib.hid (setWord_any 3 3 rfl 77 (by omega) w7 hF7.a (by simp [HW4.out]))
                  clear hM7 hT7 hF7 HS6 HF6 q6
                  go_wp2_with fail
                  refine (HS7.out 0).mono ?_
                  rintro e w' ⟨rfl, rfl⟩
                  go_wp2_with fail
                  refine HS8.out.mono ?_
                  rintro e w' ⟨rfl, rfl⟩
                  go_wp2_with fail
                  refine HS9.out.mono ?_
                  rintro e w8 ⟨rfl, hM8, hT8⟩
                  have hF8 := HF7.out.toA hT8 hM8 ⟨rfl, rfl⟩
                  have q8 := (hF8.below.cell (p := ⟨W0.heap.size, i1, none⟩) hns).trans ((hK2.out.cell i1).trans HNU.out)
                  have r8 := (hF8.below.cell (p := ⟨W0.heap.size, k1, none⟩) hns).trans ((hK2.out.cell k1).trans HNV.out)
                  have f0 := hF8.b.cw
                  unfold vws at f0
                  rw [HW4.out] at f0
                  have f1 := hF8.b.reg 2 (by omega)
                  have f2 := hF8.b.reg 3 (by omega)
                  have f3 := hF8.b.word 3 (by rw [HW4.out]; omega)
                  have f4 := hF8.b.fg 2
                  have f5 := hF8.b.fg 3
                  have f6 := hF8.b.fw 3
                  have HF9 := Lib.hid (show Two s wr _ ⟨s + 1, s, Aa, ca⟩ ⟨s + 3, s + 2, Ab, cb⟩ { M0 with R := (M0.R.set 2 u).set 3 v, W := M0.W.set 3 77 } { M0 with R := (M0.R.set 2 u).set 3 v, W := M0.W.set 3 77 } from hF8.sets u v HU.out HV.out)
                  have hne : W0.heap.size ≠ s + 3 := by omega
                  have hne2 : W0.heap.size ≠ s + 2 := by omega
                  clear hM8 hT8 hF8 HS7 HS8 HS9 HF7
                  generalize ({ M0 with R := (M0.R.set 2 u).set 3 v, W := M0.W.set 3 77 } : Mc) = M1 at *
                  go_wp2_with fail
                  go_region
                  have HST := Lib.hid (step_any _ _ _ _ _ HF9.out.a)
                  have hbd := stR_bd M1
                  go_wp2_with fail
                  refine HST.out.mono ?_
                  rintro e wa ⟨rfl, hMa, hTa⟩
                  have hFa := HF9.out.toA hTa hMa ⟨rfl, rfl⟩
                  have HFa := Lib.hid hFa
                  have HST2 := Lib.hid (rstep_any _ _ _ _ wa hFa.b)
                  have hrb : -1 ≤ stR M1 ∧ stR M1 ≤ 4 := by omega
                  clear hMa hTa hFa HST hbd HF9
                  generalize hrr : stR M1 = rr at *
                  obtain ⟨rr0, rr1⟩ := hrb
                  have HRR := Lib.hid hrr
                  clear hrr
                  go_wp2_with fail
                  refine HST2.out.mono ?_
                  rintro e wb ⟨he, hMb, hTb⟩
                  rw [HRR.out] at he
                  subst he
                  have hFb := HFa.out.toB hTb hMb ⟨rfl, rfl⟩
                  have HFb := Lib.hid hFb
                  have HAL := Lib.hid (alike_any _ _ _ _ _ _ wb hFb.a hFb.b)
                  clear hMb hTb hFb HST2 HFa HRR rr0 rr1
                  go_wp2_with fail
                  refine HAL.out.mono ?_
                  rintro e wc ⟨rfl, hbc⟩
                  have HF10 := Lib.hid (HFb.out.keep hbc)
                  clear hbc HAL HFb
                  obtain ⟨M2, hM2⟩ : ∃ M2, M2 = stM M1 := ⟨_, rfl⟩
                  rw [← hM2] at HF10
                  clear hM2
                  have HST := Lib.hid (step_any _ _ _ _ _ HF10.out.a)
                  have hbd := stR_bd M2
                  go_wp2_with fail
                  refine HST.out.mono ?_
                  rintro e wa ⟨rfl, hMa, hTa⟩
                  have hFa := HF10.out.toA hTa hMa ⟨rfl, rfl⟩
                  have HFa := Lib.hid hFa
                  have HST2 := Lib.hid (rstep_any _ _ _ _ wa hFa.b)
                  have hrb : -1 ≤ stR M2 ∧ stR M2 ≤ 4 := by omega
                  clear hMa hTa hFa HST hbd HF10
                  generalize hrr : stR M2 = rr at *
                  obtain ⟨rr0, rr1⟩ := hrb
                  have HRR := Lib.hid hrr
                  clear hrr
                  go_wp2_with fail
                  refine HST2.out.mono ?_
                  rintro e wb ⟨he, hMb, hTb⟩
                  rw [HRR.out] at he
                  subst he
                  have hFb := HFa.out.toB hTb hMb ⟨rfl, rfl⟩
                  have HFb := Lib.hid hFb
                  have HAL := Lib.hid (alike_any _ _ _ _ _ _ wb hFb.a hFb.b)
                  clear hMb hTb hFb HST2 HFa HRR rr0 rr1
                  go_wp2_with fail
                  refine HAL.out.mono ?_
                  rintro e wc ⟨rfl, hbc⟩
                  have HF11 := Lib.hid (HFb.out.keep hbc)
                  clear hbc HAL HFb
                  have HK3 := Lib.hid (hK2.out.below HF11.out.below hns)
                  have HB3 := Lib.hid (hB2.out.trans (HF11.out.below.mono (by rw [HSZ.out]; exact hB2.out.size)))
                  clear HF11
                  go_wp2_with fail
                  go_roundw
                  case rel => exact ⟨k1 + 1, by go_num, by omega, HK3, HB3⟩
                  case measure => simp [intOf]; omega
                · have hk99 : k1 = 9 := by omega
                  subst hk99
                  go_wp2_with fail
                  go_roundw
                  case rel => exact ⟨i1 + 1, by go_num, by omega, hK2, hB2⟩
                  case measure => simp [intOf]; omega
            · have hi99 : i1 = 9 := by omega
              subst hi99
              go_wp2_with fail
              go_roundw
              case rel => exact ⟨o + 1, by go_num, by omega, hK1, hB1⟩
              case measure => simp [intOf]; omega
        · have ho2 : o = 20 := by omega
          subst ho2
          go_wp2_with fail
          refine (new_any 2 2 rfl (by omega) (by omega) _).mono ?_
          rintro e w1 ⟨rfl, hb1, hz1, hM1⟩
          have hM := hM1 w1.heap.size (Nat.le_refl _)
          have hB1 := hB.out.trans (hb1.mono hB.out.size)
          have HZ1 := Lib.hid hz1
          have HS0 := Lib.hid hB.out.size
          have hrn : (rn (5 : Int).toNat (mc0 2)).how = 2 ∧ (rn (5 : Int).toNat (mc0 2)).imm = 0 ∧ (rn (5 : Int).toNat (mc0 2)).cnt = 0 := by refine ⟨?_, ?_, ?_⟩ <;> decide +kernel
          have HRU := Lib.hid (run_any _ _ _ _ 5 (by omega) w1 hM)
          have HRN := Lib.hid hrn
          have HB1 := Lib.hid hB1
          clear hb1 hz1 hM1 hM hB1 hrn
          go_wp2_with fail
          refine HRU.out.mono ?_
          rintro e w2 ⟨he, hM2, hT2⟩
          obtain ⟨n1, n2, n3⟩ := HRN.out
          rw [n1, n2, n3] at he
          subst he
          have HB2 := Lib.hid (turn_below hT2 HB1.out HB1.out.size (by simp; exact Nat.le_succ_of_le HS0.out) (by simp; exact HS0.out))
          have HM2 := Lib.hid hM2
          have HS2 := Lib.hid hT2.size
          have hrd : Rd (w2.alloc (.cells #[.int .u8 1] 5)) (w2.alloc (.cells #[.int .u8 1] 5)).heap.size (some ⟨w2.heap.size, 0, none⟩) (bv [1]) := fun _ => ⟨w2.heap.size, 0, rfl, by simp, fun j u hu => by
            rw [(Blk.new w2 _ _).cell, Nat.zero_add]
            simpa [bv] using hu⟩
          have HLS := Lib.hid (load_short 62 w1.heap.size ⟨wr.heap.size + 1, wr.heap.size, none, 0⟩ (mc0 2) (some ⟨w2.heap.size, 0, none⟩) 1 [1] (by decide) (by unfold maxLen; omega) (by decide) (by decide) _ hrd)
          clear hM2 hT2 n1 n2 n3 HRN HRU hrd
          go_wp2_with fail
          refine HLS.out.mono ?_
          rintro e w3 ⟨rfl, hb3⟩
          have hb23 : Below w2.heap.size w2 w3 := ((Below.refl _ _).alloc (Nat.le_refl _) _).trans (hb3.mono (by simp))
          have hM3 := HM2.out.below hb23
          have hB3 := HB2.out.trans (hb23.mono HB2.out.size)
          have hs3 : w1.heap.size ≤ w3.heap.size := Nat.le_trans HS2.out hb23.size
          have hmk := fun W => run_make_row' (P := Try.prog) 31 5 (.int .u8 0) 1 Try.underlying31 Try.info_u8 rfl .i64 .i64 8 (by omega) (by omega) W
          simp only [Int.cast_ofNat_Int] at hmk
          have hz8 : encs [zeroI] = [0, 0, 0, 0, 0, 0, 0, 0] := by decide
          have hm8 : madeCells #[Value.int .u8 0] 8 = (bv [0, 0, 0, 0, 0, 0, 0, 0]).toArray := by kernel_rfl
          have hrd : Rd (w3.alloc (.cells (madeCells #[.int .u8 0] 8) 5)) (w3.alloc (.cells (madeCells #[.int .u8 0] 8) 5)).heap.size (some ⟨w3.heap.size, 0, none⟩) (bv (encs [zeroI])) := fun _ => ⟨w3.heap.size, 0, rfl, by simp, fun j u hu => by
            rw [(Blk.new w3 _ _).cell, Nat.zero_add, hm8]
            rw [hz8] at hu
            simpa using hu⟩
          have hal : Below w3.heap.size w3 (w3.alloc (.cells (madeCells #[.int .u8 0] 8) 5)) := (Below.refl _ _).alloc (Nat.le_refl _) _
          have hlo := load_any _ _ _ _ (some ⟨w3.heap.size, 0, none⟩) 8 (encs [zeroI]) (by rw [hz8]; decide) (by unfold maxLen; omega) (by rw [hz8]; decide) _ (Nat.le_trans hs3 hal.size) (hM3.below hal) hrd
          have HLO := Lib.hid hlo
          have HB4 := Lib.hid (hB3.trans (hal.mono hB3.size))
          clear hb3 hb23 hM3 hB3 hs3 hz8 hm8 hrd hal hlo HLS HB2 HM2 HB1
          go_wp2_with fail
          refine HLO.out.mono ?_
          intro e w5 hld
          obtain ⟨rfl, hT5, _⟩ := hld.enc (by intro p hp; rw [List.mem_singleton] at hp; subst hp; exact ⟨by decide, by unfold Hi.fit zeroI; decide⟩)
          have HB5 := Lib.hid (turn_below hT5 HB4.out HB4.out.size (by simp; exact Nat.le_succ_of_le HS0.out) (by simp; exact HS0.out))
          clear hld hT5 HLO HB4 hmk
          go_wp2_with (go_at_call 19; refine (known_any _).mono ?_; rintro e w6 ⟨rfl, hb6⟩)
          go_ret
          exact ⟨rfl, HB5.out.trans (hb6.mono HB5.out.size)⟩
end Go.Proofs.Ytaghblcboimbpaa

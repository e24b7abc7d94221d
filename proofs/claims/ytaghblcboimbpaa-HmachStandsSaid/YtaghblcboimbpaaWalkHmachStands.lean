/-
  innkeeperlaw4.HmachStands returns true: its walk.
-/
import Derived.Test.YtaghblcboimbpaaMw
import Derived.Test.YtaghblcboimbpaaRowH
import Derived.Test.YtaghblcboimbpaaRowI
import Derived.Outline
namespace Go.Proofs.Ytaghblcboimbpaa
open Go.RowKit
set_option linter.unusedSimpArgs false
set_option linter.unusedVariables false

theorem u64_of_wf {n : Int} (h : (Lit.int .u64 n).wf = true) : U64 n := by
  simp [Lit.wf, IntKind.min, IntKind.max, IntKind.bits, IntKind.signed] at h; unfold U64; omega
theorem one_q {M : Mc} {q : Hi} (hC : M.C = [q]) (hp : M.p = 0) : M.q = q := by unfold Mc.q; rw [hC, hp]; rfl
theorem one_stR {M : Mc} {q : Hi} (hC : M.C = [q]) (hp : M.p = 0) : stR M = if q.o = 19 then 1 else if (q.o = 14 ∨ q.o = 15) ∧ (M.W.length : Int) ≤ M.wa then 4 else 0 := by
  unfold stR; rw [one_q hC hp, hC, hp, if_neg (by simp)]
theorem enc_one (q : Hi) : encs [q] = q.enc := by simp [encs]
/-- what the law's machine looks like -/
def stMc (q : Hi) (R : List Int) : Mc := { mc0 4 with C := [q], p := 0, R := R }
theorem step_stay {T : TypeId} {B : Nat} {P : Mp} {M : Mc} {s : Int} (hs : stR M = s) (h0 : s ≠ 0) (w : World) (hM : IsM .u32 T B w P M) :
    Calls Try.prog 15 #[.pointer (some ⟨P.g, 0, none⟩)] w fun e w' => e = .returned (.int .i64 s) ∧ IsM .u32 T B w' P M ∧ Turn P.g P.gw w w' := by
  have hm : stM M = M := by unfold stM; rw [if_pos (by rw [hs]; exact h0)]
  refine (step_any T B P M w hM).mono ?_
  rintro e w' ⟨h1, h2, h3⟩
  rw [hm] at h2
  rw [hs] at h1
  exact ⟨h1, h2, h3⟩
theorem stMc_word (q : Hi) (R : List Int) : (stMc q R).word 0 = 0 := by simp [Mc.word, stMc, mc0, wo]

set_option maxRecDepth 100000 in
set_option maxHeartbeats 4000000 in
theorem stands_14 (a0 : Int) (A1 : Option Addr) (len1 cap1 : Nat) (z1 : List Int) (a2 : Int) (w : World) (w0 : (Lit.int .i64 a0).wf = true) (w1 : IsRow .u64 w A1 len1 cap1 z1) (w2 : (Lit.int .u32 a2).wf = true) (hj : wdV a0 0 3 = 0) :
    Calls Try.prog 7 #[.int .i64 a0, .slice A1 len1 cap1, .int .u32 a2] w fun e w' => e = .returned (.bool true) ∧ Below w.heap.size w w' := by
  obtain ⟨b0, b1⟩ := i64_of_wf w0
  obtain ⟨n0, n1⟩ := u32_of_wf w2
  obtain ⟨hl1, hc1, hA1, l, hlen, hlw, hrd⟩ := w1.rd
  subst hlen
  have hwi := within_book a0 3 b0 b1 (by omega) (by omega)
  rw [hj] at hwi
  have hq : (⟨14, 0, 0, 0, a2⟩ : Hi).Ok := ⟨by simp [Hi.ok, okH, isO, uD, uA, uB, uN, rg], n0, n1⟩
  have HWI := Lib.hid hwi
  have HQ := Lib.hid hq
  have HLW := Lib.hid hlw
  have HRD := Lib.hid hrd
  have HE := Lib.hid (rencode_any 14 0 0 0 a2 n0 n1)
  have HRF := Lib.hid (rf_enc _ hq)
  unfold maxLen at hc1
  clear hwi hq hlw hrd w0 w1 w2 hj b0 b1 hA1
  go_enter Try.func7, Try.ntmps7
  go_wp2_with fail
  refine (new_any 4 4 rfl (by omega) (by omega) _).mono ?_
  rintro e w1 ⟨rfl, hb1, hz1, hM1⟩
  have hM := hM1 w1.heap.size (Nat.le_refl _)
  have HB1 := Lib.hid hb1
  have HM := Lib.hid hM
  have HZ := Lib.hid hz1
  clear hb1 hM1 hM hz1
  go_wp2_with (first
    | (go_at_call 20; refine (HWI.out _).mono ?_; rintro e w' ⟨rfl, rfl⟩)
    | (go_at_call 27; with_reducible refine (HE.out _).mono ?_
       rintro e w2 ⟨rfl, ho2, hb2⟩
       have hrf : rfV 14 0 0 0 a2 = encs [⟨14, 0, 0, 0, a2⟩] := by rw [enc_one]; exact HRF.out
       rw [hrf] at ho2
       have hbx := below_two w1 (.cells #[.int .i64 14, .int .i64 15, .int .i64 19, .int .i64 18] 3) (.cells #[.int .i64 14, .int .i64 0, .int .i64 0, .int .i64 0, .int .u32 a2] 35)
       have hb12 := hbx.trans (hb2.mono (by simp; omega))
       have hM2 := HM.out.below hb12
       have hB2 := HB1.out.trans (hb12.mono HB1.out.size)
       have hz2 := hb12.size
       have hp2 := Rd.of_own ho2
       have hk5 : Blk w2 (w1.heap.size + 1) 35 #[.int .i64 14, .int .i64 0, .int .i64 0, .int .i64 0, .int .u32 a2] := by
         have h5 := (Blk.new (w1.alloc (.cells #[.int .i64 14, .int .i64 15, .int .i64 19, .int .i64 18] 3)) 35 #[.int .i64 14, .int .i64 0, .int .i64 0, .int .i64 0, .int .u32 a2])
         simp only [World.size_alloc] at h5
         exact h5.below hb2 (by simp)
       have hlo := load_any _ _ _ _ _ 8 (encs [⟨14, 0, 0, 0, a2⟩]) (by rw [enc_one]; exact Nat.le_refl _) (by unfold maxLen; omega) (by rw [enc_one, Hi.enc_len]; omega) w2 (by omega) hM2 hp2
       simp only [World.size_alloc] at hlo
       have HLO := Lib.hid hlo
       have HB2 := Lib.hid hB2
       have HK5 := Lib.hid hk5
       clear hrf ho2 hb2 hbx hb12 hM2 hB2 hp2 hlo hk5 HE)
    | (go_at_call 11; refine HLO.out.mono ?_
       intro e w3 hld
       obtain ⟨rfl, hT3, A3, c3, hM3⟩ := hld.enc (by intro p hp; rw [List.mem_singleton] at hp; subst hp; exact HQ.out)
       have hB3 := turn_below hT3 HB2.out HB2.out.size (by simp) (by simp)
       have hk3 : Blk w3 (w1.heap.size + 1) 35 #[.int .i64 14, .int .i64 0, .int .i64 0, .int .i64 0, .int .u32 a2] := (hT3.block _ HK5.out.lt (by have := HZ.out; simp; omega) (by have := HZ.out; simp; omega)).trans HK5.out
       have HM3 := Lib.hid (show IsM .u32 62 w1.heap.size w3 ⟨w.heap.size + 1, w.heap.size, A3, c3⟩ (stMc ⟨14, 0, 0, 0, a2⟩ (mc0 4).R) from hM3)
       have HB3 := Lib.hid hB3
       have HK3 := Lib.hid hk3
       have HZ3 := Lib.hid hT3.size
       clear hld hT3 hM3 hB3 hk3 HLO HB2 HK5 HM))
  go_loopw [10] (fun i wr => ∃ (k : Nat) (R : List Int), i = .int .i64 k ∧ k ≤ 16 ∧ Hid (IsM .u32 62 w1.heap.size wr ⟨w.heap.size + 1, w.heap.size, A3, c3⟩ (stMc ⟨14, 0, 0, 0, a2⟩ R)) ∧ Hid (Below w.heap.size w wr) ∧ Hid (Blk wr (w1.heap.size + 1) 35 #[.int .i64 14, .int .i64 0, .int .i64 0, .int .i64 0, .int .u32 a2])) (fun i _ => 16 - (intOf i).toNat)
  case atStart => exact ⟨0, _, rfl, by omega, HM3, HB3, HK3⟩
  case round =>
    obtain ⟨k, R, rfl, hk, hI, hB, hK⟩ := hrel
    by_cases hgo : k < l.length ∧ k < 16
    · obtain ⟨g1, g2⟩ := hgo
      obtain ⟨bl, ol, rfl, hbl, hcl⟩ := HRD.out (by simpa using (show 0 < l.length by omega))
      have e1 := hcl k _ (by rw [List.getElem?_map, List.getElem?_eq_getElem g1]; rfl)
      have d1 := (hB.out.cell (p := ⟨bl, _, none⟩) hbl).trans e1
      have hu := u64_of_wf (HLW.out _ (List.getElem_mem g1))
      clear hcl e1
      generalize l[k] = x at *
      have HSR := Lib.hid (setReg_any (k : Int) k rfl g2 x hu wr hI.out)
      clear hu
      go_wp2_with (go_at_call 13; refine HSR.out.mono ?_; rintro e w5 ⟨rfl, hM5, hT5⟩; have HM5 := Lib.hid hM5; have HB5 := Lib.hid (turn_below hT5 hB.out hB.out.size (by simp) (by simp)); have HK5 := Lib.hid ((hT5.block _ hK.out.lt (by have := HZ.out; simp; omega) (by have := HZ.out; simp; omega)).trans hK.out); clear hM5 hT5 HSR)
      go_roundw
      case rel => exact ⟨k + 1, _, by go_num, by omega, HM5, HB5, HK5⟩
      case measure => simp [intOf]; omega
    · have hend : l.length ≤ k ∨ (k < l.length ∧ 16 ≤ k) := by omega
      have hst := step_any _ _ _ _ wr hI.out
      have HST := Lib.hid hst
      clear hst hgo
      have hsr := one_stR (M := stMc ⟨14, 0, 0, 0, a2⟩ R) rfl rfl
      have hq0 := one_q (M := stMc ⟨14, 0, 0, 0, a2⟩ R) rfl rfl
      have HSR := Lib.hid hsr
      have HQ0 := Lib.hid hq0
      clear hsr hq0
      have hsplit : stR (stMc ⟨14, 0, 0, 0, a2⟩ R) = 0 ∨ stR (stMc ⟨14, 0, 0, 0, a2⟩ R) ≠ 0 := by omega
      have HEND := Lib.hid hend
      clear hend
      rcases hsplit with hs | hs
      · have hp1 : (stM (stMc ⟨14, 0, 0, 0, a2⟩ R)).p = 1 := by
          unfold stM; rw [HQ0.out, if_neg (by rw [hs]; simp)]; simp [stMc]
        have HS := Lib.hid hs
        have HP1 := Lib.hid hp1
        clear hs hp1
        rcases HEND.out with g1 | ⟨g1, g2⟩
        all_goals
          go_wp2_with fail
          refine HST.out.mono ?_
          rintro e w5 ⟨he, hM5, hT5⟩
          rw [HS.out] at he
          subst he
          have HB5 := Lib.hid (turn_below hT5 hB.out hB.out.size (by simp) (by simp))
          have HRG := Lib.hid (reg_any 0 w5 hM5)
          have hat := at_any w5 hM5
          rw [HP1.out] at hat
          have HAT := Lib.hid hat
          have hK5 : Blk w5 _ _ _ := ((hT5.block _ hK.out.lt (by have := HZ.out; simp; omega) (by have := HZ.out; simp; omega)).trans hK.out)
          have k0 := hK5.cell 0
          simp at k0
          generalize (stM (stMc ⟨14, 0, 0, 0, a2⟩ R)).reg 0 = rr at *
          clear hM5 hT5 HST hat hK5
          go_wp2_with fail
          refine HRG.out.mono ?_
          rintro e w6 ⟨rfl, rfl⟩
          clear HRG
          go_wp2_with (go_at_call 22; refine HAT.out.mono ?_; rintro e w7 ⟨rfl, rfl⟩)
          go_ret
          exact ⟨rfl, HB5.out⟩
      · have hstp := fun W (h : IsM .u32 62 w1.heap.size W ⟨w.heap.size + 1, w.heap.size, A3, c3⟩ (stMc ⟨14, 0, 0, 0, a2⟩ R)) => step_stay rfl hs W h
        have hreg := fun W (h : IsM .u32 62 w1.heap.size W ⟨w.heap.size + 1, w.heap.size, A3, c3⟩ (stMc ⟨14, 0, 0, 0, a2⟩ R)) => reg_any 0 W h
        have hwrd := fun W (h : IsM .u32 62 w1.heap.size W ⟨w.heap.size + 1, w.heap.size, A3, c3⟩ (stMc ⟨14, 0, 0, 0, a2⟩ R)) => word_any 0 W h
        rw [stMc_word] at hwrd
        have hs1 : (stR (stMc ⟨14, 0, 0, 0, a2⟩ R) == 0) = false := by simpa using hs
        have hbs : stR (stMc ⟨14, 0, 0, 0, a2⟩ R) ≤ 4 := by rcases stR_bd (stMc ⟨14, 0, 0, 0, a2⟩ R) with h | h | h | h <;> omega
        generalize (stMc ⟨14, 0, 0, 0, a2⟩ R).reg 0 = rr at *
        generalize stR (stMc ⟨14, 0, 0, 0, a2⟩ R) = s at *
        have HSTP := Lib.hid hstp
        have HREG := Lib.hid hreg
        have HWRD := Lib.hid hwrd
        have HHS := Lib.hid hs
        clear hstp hreg hwrd hs hbs HST HSR HQ0
        rcases HEND.out with g1 | ⟨g1, g2⟩
        all_goals
          go_wp2_with fail
          refine (HSTP.out _ hI.out).mono ?_
          rintro e w5 ⟨rfl, hM5, hT5⟩
          have HB5 := Lib.hid (turn_below hT5 hB.out hB.out.size (by simp) (by simp))
          have HM5 := Lib.hid hM5
          clear hM5 hT5
          go_wp2_with fail
          refine (HREG.out _ HM5.out).mono ?_
          rintro e w6 ⟨rfl, rfl⟩
          go_wp2_with fail
          go_loopw [13] (fun i wz => ∃ j : Nat, i = .int .i64 j ∧ j ≤ 3 ∧ Hid (IsM .u32 62 w1.heap.size wz ⟨w.heap.size + 1, w.heap.size, A3, c3⟩ (stMc ⟨14, 0, 0, 0, a2⟩ R)) ∧ Hid (Below w.heap.size w wz)) (fun i _ => 3 - (intOf i).toNat)
          case atStart => exact ⟨0, rfl, by omega, HM5, HB5⟩
          case round =>
            obtain ⟨j, rfl, hj, hIz, hBz⟩ := hrel
            by_cases hj3 : j < 3
            · go_wp2_with fail
              refine (HSTP.out _ hIz.out).mono ?_
              rintro e w7 ⟨rfl, hM7, hT7⟩
              have HB7 := Lib.hid (turn_below hT7 hBz.out hBz.out.size (by simp) (by simp))
              have HM7 := Lib.hid hM7
              have hat : Calls Try.prog 22 #[.pointer (some ⟨w.heap.size + 1, 0, none⟩)] w7 fun e w' => e = .returned (.int .i64 0) ∧ w7 = w' := at_any w7 hM7
              have HAT := Lib.hid hat
              clear hM7 hT7 hat
              go_wp2_with (first
                | (go_at_call 22; refine HAT.out.mono ?_; rintro e w8 ⟨rfl, rfl⟩)
                | (go_at_call 25; refine (HREG.out _ HM7.out).mono ?_; rintro e w8 ⟨rfl, rfl⟩)
                | (go_at_call 26; refine (HWRD.out _ HM7.out).mono ?_; rintro e w8 ⟨rfl, rfl⟩))
              go_roundw
              case rel => exact ⟨j + 1, by go_num, by omega, HM7, HB7⟩
              case measure => simp [intOf]; omega
            · go_wp2_with (go_at_call 19; refine (known_any _).mono ?_; rintro e w8 ⟨rfl, hb8⟩)
              go_ret
              exact ⟨rfl, hBz.out.trans (hb8.mono hBz.out.size)⟩

set_option maxRecDepth 100000 in
set_option maxHeartbeats 4000000 in
theorem stands_15 (a0 : Int) (A1 : Option Addr) (len1 cap1 : Nat) (z1 : List Int) (a2 : Int) (w : World) (w0 : (Lit.int .i64 a0).wf = true) (w1 : IsRow .u64 w A1 len1 cap1 z1) (w2 : (Lit.int .u32 a2).wf = true) (hj : wdV a0 0 3 = 1) :
    Calls Try.prog 7 #[.int .i64 a0, .slice A1 len1 cap1, .int .u32 a2] w fun e w' => e = .returned (.bool true) ∧ Below w.heap.size w w' := by
  obtain ⟨b0, b1⟩ := i64_of_wf w0
  obtain ⟨n0, n1⟩ := u32_of_wf w2
  obtain ⟨hl1, hc1, hA1, l, hlen, hlw, hrd⟩ := w1.rd
  subst hlen
  have hwi := within_book a0 3 b0 b1 (by omega) (by omega)
  rw [hj] at hwi
  have hq : (⟨15, 0, 0, 0, a2⟩ : Hi).Ok := ⟨by simp [Hi.ok, okH, isO, uD, uA, uB, uN, rg], n0, n1⟩
  have HWI := Lib.hid hwi
  have HQ := Lib.hid hq
  have HLW := Lib.hid hlw
  have HRD := Lib.hid hrd
  have HE := Lib.hid (rencode_any 15 0 0 0 a2 n0 n1)
  have HRF := Lib.hid (rf_enc _ hq)
  unfold maxLen at hc1
  clear hwi hq hlw hrd w0 w1 w2 hj b0 b1 hA1
  go_enter Try.func7, Try.ntmps7
  go_wp2_with fail
  refine (new_any 4 4 rfl (by omega) (by omega) _).mono ?_
  rintro e w1 ⟨rfl, hb1, hz1, hM1⟩
  have hM := hM1 w1.heap.size (Nat.le_refl _)
  have HB1 := Lib.hid hb1
  have HM := Lib.hid hM
  have HZ := Lib.hid hz1
  clear hb1 hM1 hM hz1
  go_wp2_with (first
    | (go_at_call 20; refine (HWI.out _).mono ?_; rintro e w' ⟨rfl, rfl⟩)
    | (go_at_call 27; with_reducible refine (HE.out _).mono ?_
       rintro e w2 ⟨rfl, ho2, hb2⟩
       have hrf : rfV 15 0 0 0 a2 = encs [⟨15, 0, 0, 0, a2⟩] := by rw [enc_one]; exact HRF.out
       rw [hrf] at ho2
       have hbx := below_two w1 (.cells #[.int .i64 14, .int .i64 15, .int .i64 19, .int .i64 18] 3) (.cells #[.int .i64 15, .int .i64 0, .int .i64 0, .int .i64 0, .int .u32 a2] 35)
       have hb12 := hbx.trans (hb2.mono (by simp; omega))
       have hM2 := HM.out.below hb12
       have hB2 := HB1.out.trans (hb12.mono HB1.out.size)
       have hz2 := hb12.size
       have hp2 := Rd.of_own ho2
       have hk5 : Blk w2 (w1.heap.size + 1) 35 #[.int .i64 15, .int .i64 0, .int .i64 0, .int .i64 0, .int .u32 a2] := by
         have h5 := (Blk.new (w1.alloc (.cells #[.int .i64 14, .int .i64 15, .int .i64 19, .int .i64 18] 3)) 35 #[.int .i64 15, .int .i64 0, .int .i64 0, .int .i64 0, .int .u32 a2])
         simp only [World.size_alloc] at h5
         exact h5.below hb2 (by simp)
       have hlo := load_any _ _ _ _ _ 8 (encs [⟨15, 0, 0, 0, a2⟩]) (by rw [enc_one]; exact Nat.le_refl _) (by unfold maxLen; omega) (by rw [enc_one, Hi.enc_len]; omega) w2 (by omega) hM2 hp2
       simp only [World.size_alloc] at hlo
       have HLO := Lib.hid hlo
       have HB2 := Lib.hid hB2
       have HK5 := Lib.hid hk5
       clear hrf ho2 hb2 hbx hb12 hM2 hB2 hp2 hlo hk5 HE)
    | (go_at_call 11; refine HLO.out.mono ?_
       intro e w3 hld
       obtain ⟨rfl, hT3, A3, c3, hM3⟩ := hld.enc (by intro p hp; rw [List.mem_singleton] at hp; subst hp; exact HQ.out)
       have hB3 := turn_below hT3 HB2.out HB2.out.size (by simp) (by simp)
       have hk3 : Blk w3 (w1.heap.size + 1) 35 #[.int .i64 15, .int .i64 0, .int .i64 0, .int .i64 0, .int .u32 a2] := (hT3.block _ HK5.out.lt (by have := HZ.out; simp; omega) (by have := HZ.out; simp; omega)).trans HK5.out
       have HM3 := Lib.hid (show IsM .u32 62 w1.heap.size w3 ⟨w.heap.size + 1, w.heap.size, A3, c3⟩ (stMc ⟨15, 0, 0, 0, a2⟩ (mc0 4).R) from hM3)
       have HB3 := Lib.hid hB3
       have HK3 := Lib.hid hk3
       have HZ3 := Lib.hid hT3.size
       clear hld hT3 hM3 hB3 hk3 HLO HB2 HK5 HM))
  go_loopw [10] (fun i wr => ∃ (k : Nat) (R : List Int), i = .int .i64 k ∧ k ≤ 16 ∧ Hid (IsM .u32 62 w1.heap.size wr ⟨w.heap.size + 1, w.heap.size, A3, c3⟩ (stMc ⟨15, 0, 0, 0, a2⟩ R)) ∧ Hid (Below w.heap.size w wr) ∧ Hid (Blk wr (w1.heap.size + 1) 35 #[.int .i64 15, .int .i64 0, .int .i64 0, .int .i64 0, .int .u32 a2])) (fun i _ => 16 - (intOf i).toNat)
  case atStart => exact ⟨0, _, rfl, by omega, HM3, HB3, HK3⟩
  case round =>
    obtain ⟨k, R, rfl, hk, hI, hB, hK⟩ := hrel
    by_cases hgo : k < l.length ∧ k < 16
    · obtain ⟨g1, g2⟩ := hgo
      obtain ⟨bl, ol, rfl, hbl, hcl⟩ := HRD.out (by simpa using (show 0 < l.length by omega))
      have e1 := hcl k _ (by rw [List.getElem?_map, List.getElem?_eq_getElem g1]; rfl)
      have d1 := (hB.out.cell (p := ⟨bl, _, none⟩) hbl).trans e1
      have hu := u64_of_wf (HLW.out _ (List.getElem_mem g1))
      clear hcl e1
      generalize l[k] = x at *
      have HSR := Lib.hid (setReg_any (k : Int) k rfl g2 x hu wr hI.out)
      clear hu
      go_wp2_with (go_at_call 13; refine HSR.out.mono ?_; rintro e w5 ⟨rfl, hM5, hT5⟩; have HM5 := Lib.hid hM5; have HB5 := Lib.hid (turn_below hT5 hB.out hB.out.size (by simp) (by simp)); have HK5 := Lib.hid ((hT5.block _ hK.out.lt (by have := HZ.out; simp; omega) (by have := HZ.out; simp; omega)).trans hK.out); clear hM5 hT5 HSR)
      go_roundw
      case rel => exact ⟨k + 1, _, by go_num, by omega, HM5, HB5, HK5⟩
      case measure => simp [intOf]; omega
    · have hend : l.length ≤ k ∨ (k < l.length ∧ 16 ≤ k) := by omega
      have hst := step_any _ _ _ _ wr hI.out
      have HST := Lib.hid hst
      clear hst hgo
      have hsr := one_stR (M := stMc ⟨15, 0, 0, 0, a2⟩ R) rfl rfl
      have hq0 := one_q (M := stMc ⟨15, 0, 0, 0, a2⟩ R) rfl rfl
      have HSR := Lib.hid hsr
      have HQ0 := Lib.hid hq0
      clear hsr hq0
      have hsplit : stR (stMc ⟨15, 0, 0, 0, a2⟩ R) = 0 ∨ stR (stMc ⟨15, 0, 0, 0, a2⟩ R) ≠ 0 := by omega
      have HEND := Lib.hid hend
      clear hend
      rcases hsplit with hs | hs
      · have hp1 : (stM (stMc ⟨15, 0, 0, 0, a2⟩ R)).p = 1 := by
          unfold stM; rw [HQ0.out, if_neg (by rw [hs]; simp)]; simp [stMc]
        have HS := Lib.hid hs
        have HP1 := Lib.hid hp1
        clear hs hp1
        rcases HEND.out with g1 | ⟨g1, g2⟩
        all_goals
          go_wp2_with fail
          refine HST.out.mono ?_
          rintro e w5 ⟨he, hM5, hT5⟩
          rw [HS.out] at he
          subst he
          have HB5 := Lib.hid (turn_below hT5 hB.out hB.out.size (by simp) (by simp))
          have HRG := Lib.hid (reg_any 0 w5 hM5)
          have hat := at_any w5 hM5
          rw [HP1.out] at hat
          have HAT := Lib.hid hat
          have hK5 : Blk w5 _ _ _ := ((hT5.block _ hK.out.lt (by have := HZ.out; simp; omega) (by have := HZ.out; simp; omega)).trans hK.out)
          have k0 := hK5.cell 0
          simp at k0
          generalize (stM (stMc ⟨15, 0, 0, 0, a2⟩ R)).reg 0 = rr at *
          clear hM5 hT5 HST hat hK5
          go_wp2_with fail
          refine HRG.out.mono ?_
          rintro e w6 ⟨rfl, rfl⟩
          clear HRG
          go_wp2_with (go_at_call 22; refine HAT.out.mono ?_; rintro e w7 ⟨rfl, rfl⟩)
          go_ret
          exact ⟨rfl, HB5.out⟩
      · have hstp := fun W (h : IsM .u32 62 w1.heap.size W ⟨w.heap.size + 1, w.heap.size, A3, c3⟩ (stMc ⟨15, 0, 0, 0, a2⟩ R)) => step_stay rfl hs W h
        have hreg := fun W (h : IsM .u32 62 w1.heap.size W ⟨w.heap.size + 1, w.heap.size, A3, c3⟩ (stMc ⟨15, 0, 0, 0, a2⟩ R)) => reg_any 0 W h
        have hwrd := fun W (h : IsM .u32 62 w1.heap.size W ⟨w.heap.size + 1, w.heap.size, A3, c3⟩ (stMc ⟨15, 0, 0, 0, a2⟩ R)) => word_any 0 W h
        rw [stMc_word] at hwrd
        have hs1 : (stR (stMc ⟨15, 0, 0, 0, a2⟩ R) == 0) = false := by simpa using hs
        have hbs : stR (stMc ⟨15, 0, 0, 0, a2⟩ R) ≤ 4 := by rcases stR_bd (stMc ⟨15, 0, 0, 0, a2⟩ R) with h | h | h | h <;> omega
        generalize (stMc ⟨15, 0, 0, 0, a2⟩ R).reg 0 = rr at *
        generalize stR (stMc ⟨15, 0, 0, 0, a2⟩ R) = s at *
        have HSTP := Lib.hid hstp
        have HREG := Lib.hid hreg
        have HWRD := Lib.hid hwrd
        have HHS := Lib.hid hs
        clear hstp hreg hwrd hs hbs HST HSR HQ0
        rcases HEND.out with g1 | ⟨g1, g2⟩
        all_goals
          go_wp2_with fail
          refine (HSTP.out _ hI.out).mono ?_
          rintro e w5 ⟨rfl, hM5, hT5⟩
          have HB5 := Lib.hid (turn_below hT5 hB.out hB.out.size (by simp) (by simp))
          have HM5 := Lib.hid hM5
          clear hM5 hT5
          go_wp2_with fail
          refine (HREG.out _ HM5.out).mono ?_
          rintro e w6 ⟨rfl, rfl⟩
          go_wp2_with fail
          go_loopw [13] (fun i wz => ∃ j : Nat, i = .int .i64 j ∧ j ≤ 3 ∧ Hid (IsM .u32 62 w1.heap.size wz ⟨w.heap.size + 1, w.heap.size, A3, c3⟩ (stMc ⟨15, 0, 0, 0, a2⟩ R)) ∧ Hid (Below w.heap.size w wz)) (fun i _ => 3 - (intOf i).toNat)
          case atStart => exact ⟨0, rfl, by omega, HM5, HB5⟩
          case round =>
            obtain ⟨j, rfl, hj, hIz, hBz⟩ := hrel
            by_cases hj3 : j < 3
            · go_wp2_with fail
              refine (HSTP.out _ hIz.out).mono ?_
              rintro e w7 ⟨rfl, hM7, hT7⟩
              have HB7 := Lib.hid (turn_below hT7 hBz.out hBz.out.size (by simp) (by simp))
              have HM7 := Lib.hid hM7
              have hat : Calls Try.prog 22 #[.pointer (some ⟨w.heap.size + 1, 0, none⟩)] w7 fun e w' => e = .returned (.int .i64 0) ∧ w7 = w' := at_any w7 hM7
              have HAT := Lib.hid hat
              clear hM7 hT7 hat
              go_wp2_with (first
                | (go_at_call 22; refine HAT.out.mono ?_; rintro e w8 ⟨rfl, rfl⟩)
                | (go_at_call 25; refine (HREG.out _ HM7.out).mono ?_; rintro e w8 ⟨rfl, rfl⟩)
                | (go_at_call 26; refine (HWRD.out _ HM7.out).mono ?_; rintro e w8 ⟨rfl, rfl⟩))
              go_roundw
              case rel => exact ⟨j + 1, by go_num, by omega, HM7, HB7⟩
              case measure => simp [intOf]; omega
            · go_wp2_with (go_at_call 19; refine (known_any _).mono ?_; rintro e w8 ⟨rfl, hb8⟩)
              go_ret
              exact ⟨rfl, hBz.out.trans (hb8.mono hBz.out.size)⟩

set_option maxRecDepth 100000 in
set_option maxHeartbeats 4000000 in
theorem stands_19 (a0 : Int) (A1 : Option Addr) (len1 cap1 : Nat) (z1 : List Int) (a2 : Int) (w : World) (w0 : (Lit.int .i64 a0).wf = true) (w1 : IsRow .u64 w A1 len1 cap1 z1) (w2 : (Lit.int .u32 a2).wf = true) (hj : wdV a0 0 3 = 2) :
    Calls Try.prog 7 #[.int .i64 a0, .slice A1 len1 cap1, .int .u32 a2] w fun e w' => e = .returned (.bool true) ∧ Below w.heap.size w w' := by
  obtain ⟨b0, b1⟩ := i64_of_wf w0
  obtain ⟨n0, n1⟩ := u32_of_wf w2
  obtain ⟨hl1, hc1, hA1, l, hlen, hlw, hrd⟩ := w1.rd
  subst hlen
  have hwi := within_book a0 3 b0 b1 (by omega) (by omega)
  rw [hj] at hwi
  have hq : (⟨19, 0, 0, 0, a2⟩ : Hi).Ok := ⟨by simp [Hi.ok, okH, isO, uD, uA, uB, uN, rg], n0, n1⟩
  have HWI := Lib.hid hwi
  have HQ := Lib.hid hq
  have HLW := Lib.hid hlw
  have HRD := Lib.hid hrd
  have HE := Lib.hid (rencode_any 19 0 0 0 a2 n0 n1)
  have HRF := Lib.hid (rf_enc _ hq)
  unfold maxLen at hc1
  clear hwi hq hlw hrd w0 w1 w2 hj b0 b1 hA1
  go_enter Try.func7, Try.ntmps7
  go_wp2_with fail
  refine (new_any 4 4 rfl (by omega) (by omega) _).mono ?_
  rintro e w1 ⟨rfl, hb1, hz1, hM1⟩
  have hM := hM1 w1.heap.size (Nat.le_refl _)
  have HB1 := Lib.hid hb1
  have HM := Lib.hid hM
  have HZ := Lib.hid hz1
  clear hb1 hM1 hM hz1
  go_wp2_with (first
    | (go_at_call 20; refine (HWI.out _).mono ?_; rintro e w' ⟨rfl, rfl⟩)
    | (go_at_call 27; with_reducible refine (HE.out _).mono ?_
       rintro e w2 ⟨rfl, ho2, hb2⟩
       have hrf : rfV 19 0 0 0 a2 = encs [⟨19, 0, 0, 0, a2⟩] := by rw [enc_one]; exact HRF.out
       rw [hrf] at ho2
       have hbx := below_two w1 (.cells #[.int .i64 14, .int .i64 15, .int .i64 19, .int .i64 18] 3) (.cells #[.int .i64 19, .int .i64 0, .int .i64 0, .int .i64 0, .int .u32 a2] 35)
       have hb12 := hbx.trans (hb2.mono (by simp; omega))
       have hM2 := HM.out.below hb12
       have hB2 := HB1.out.trans (hb12.mono HB1.out.size)
       have hz2 := hb12.size
       have hp2 := Rd.of_own ho2
       have hk5 : Blk w2 (w1.heap.size + 1) 35 #[.int .i64 19, .int .i64 0, .int .i64 0, .int .i64 0, .int .u32 a2] := by
         have h5 := (Blk.new (w1.alloc (.cells #[.int .i64 14, .int .i64 15, .int .i64 19, .int .i64 18] 3)) 35 #[.int .i64 19, .int .i64 0, .int .i64 0, .int .i64 0, .int .u32 a2])
         simp only [World.size_alloc] at h5
         exact h5.below hb2 (by simp)
       have hlo := load_any _ _ _ _ _ 8 (encs [⟨19, 0, 0, 0, a2⟩]) (by rw [enc_one]; exact Nat.le_refl _) (by unfold maxLen; omega) (by rw [enc_one, Hi.enc_len]; omega) w2 (by omega) hM2 hp2
       simp only [World.size_alloc] at hlo
       have HLO := Lib.hid hlo
       have HB2 := Lib.hid hB2
       have HK5 := Lib.hid hk5
       clear hrf ho2 hb2 hbx hb12 hM2 hB2 hp2 hlo hk5 HE)
    | (go_at_call 11; refine HLO.out.mono ?_
       intro e w3 hld
       obtain ⟨rfl, hT3, A3, c3, hM3⟩ := hld.enc (by intro p hp; rw [List.mem_singleton] at hp; subst hp; exact HQ.out)
       have hB3 := turn_below hT3 HB2.out HB2.out.size (by simp) (by simp)
       have hk3 : Blk w3 (w1.heap.size + 1) 35 #[.int .i64 19, .int .i64 0, .int .i64 0, .int .i64 0, .int .u32 a2] := (hT3.block _ HK5.out.lt (by have := HZ.out; simp; omega) (by have := HZ.out; simp; omega)).trans HK5.out
       have HM3 := Lib.hid (show IsM .u32 62 w1.heap.size w3 ⟨w.heap.size + 1, w.heap.size, A3, c3⟩ (stMc ⟨19, 0, 0, 0, a2⟩ (mc0 4).R) from hM3)
       have HB3 := Lib.hid hB3
       have HK3 := Lib.hid hk3
       have HZ3 := Lib.hid hT3.size
       clear hld hT3 hM3 hB3 hk3 HLO HB2 HK5 HM))
  go_loopw [10] (fun i wr => ∃ (k : Nat) (R : List Int), i = .int .i64 k ∧ k ≤ 16 ∧ Hid (IsM .u32 62 w1.heap.size wr ⟨w.heap.size + 1, w.heap.size, A3, c3⟩ (stMc ⟨19, 0, 0, 0, a2⟩ R)) ∧ Hid (Below w.heap.size w wr) ∧ Hid (Blk wr (w1.heap.size + 1) 35 #[.int .i64 19, .int .i64 0, .int .i64 0, .int .i64 0, .int .u32 a2])) (fun i _ => 16 - (intOf i).toNat)
  case atStart => exact ⟨0, _, rfl, by omega, HM3, HB3, HK3⟩
  case round =>
    obtain ⟨k, R, rfl, hk, hI, hB, hK⟩ := hrel
    by_cases hgo : k < l.length ∧ k < 16
    · obtain ⟨g1, g2⟩ := hgo
      obtain ⟨bl, ol, rfl, hbl, hcl⟩ := HRD.out (by simpa using (show 0 < l.length by omega))
      have e1 := hcl k _ (by rw [List.getElem?_map, List.getElem?_eq_getElem g1]; rfl)
      have d1 := (hB.out.cell (p := ⟨bl, _, none⟩) hbl).trans e1
      have hu := u64_of_wf (HLW.out _ (List.getElem_mem g1))
      clear hcl e1
      generalize l[k] = x at *
      have HSR := Lib.hid (setReg_any (k : Int) k rfl g2 x hu wr hI.out)
      clear hu
      go_wp2_with (go_at_call 13; refine HSR.out.mono ?_; rintro e w5 ⟨rfl, hM5, hT5⟩; have HM5 := Lib.hid hM5; have HB5 := Lib.hid (turn_below hT5 hB.out hB.out.size (by simp) (by simp)); have HK5 := Lib.hid ((hT5.block _ hK.out.lt (by have := HZ.out; simp; omega) (by have := HZ.out; simp; omega)).trans hK.out); clear hM5 hT5 HSR)
      go_roundw
      case rel => exact ⟨k + 1, _, by go_num, by omega, HM5, HB5, HK5⟩
      case measure => simp [intOf]; omega
    · have hend : l.length ≤ k ∨ (k < l.length ∧ 16 ≤ k) := by omega
      have hst := step_any _ _ _ _ wr hI.out
      have HST := Lib.hid hst
      clear hst hgo
      have hsr := one_stR (M := stMc ⟨19, 0, 0, 0, a2⟩ R) rfl rfl
      have hq0 := one_q (M := stMc ⟨19, 0, 0, 0, a2⟩ R) rfl rfl
      have HSR := Lib.hid hsr
      have HQ0 := Lib.hid hq0
      clear hsr hq0
      have hsplit : stR (stMc ⟨19, 0, 0, 0, a2⟩ R) = 0 ∨ stR (stMc ⟨19, 0, 0, 0, a2⟩ R) ≠ 0 := by omega
      have HEND := Lib.hid hend
      clear hend
      rcases hsplit with hs | hs
      · exact absurd hs (by rw [HSR.out]; simp)
      · have hstp := fun W (h : IsM .u32 62 w1.heap.size W ⟨w.heap.size + 1, w.heap.size, A3, c3⟩ (stMc ⟨19, 0, 0, 0, a2⟩ R)) => step_stay rfl hs W h
        have hreg := fun W (h : IsM .u32 62 w1.heap.size W ⟨w.heap.size + 1, w.heap.size, A3, c3⟩ (stMc ⟨19, 0, 0, 0, a2⟩ R)) => reg_any 0 W h
        have hwrd := fun W (h : IsM .u32 62 w1.heap.size W ⟨w.heap.size + 1, w.heap.size, A3, c3⟩ (stMc ⟨19, 0, 0, 0, a2⟩ R)) => word_any 0 W h
        rw [stMc_word] at hwrd
        have hs1 : (stR (stMc ⟨19, 0, 0, 0, a2⟩ R) == 0) = false := by simpa using hs
        have hbs : stR (stMc ⟨19, 0, 0, 0, a2⟩ R) ≤ 4 := by rcases stR_bd (stMc ⟨19, 0, 0, 0, a2⟩ R) with h | h | h | h <;> omega
        generalize (stMc ⟨19, 0, 0, 0, a2⟩ R).reg 0 = rr at *
        generalize stR (stMc ⟨19, 0, 0, 0, a2⟩ R) = s at *
        have HSTP := Lib.hid hstp
        have HREG := Lib.hid hreg
        have HWRD := Lib.hid hwrd
        have HHS := Lib.hid hs
        clear hstp hreg hwrd hs hbs HST HSR HQ0
        rcases HEND.out with g1 | ⟨g1, g2⟩
        all_goals
          go_wp2_with fail
          refine (HSTP.out _ hI.out).mono ?_
          rintro e w5 ⟨rfl, hM5, hT5⟩
          have HB5 := Lib.hid (turn_below hT5 hB.out hB.out.size (by simp) (by simp))
          have HM5 := Lib.hid hM5
          clear hM5 hT5
          go_wp2_with fail
          refine (HREG.out _ HM5.out).mono ?_
          rintro e w6 ⟨rfl, rfl⟩
          go_wp2_with fail
          go_loopw [13] (fun i wz => ∃ j : Nat, i = .int .i64 j ∧ j ≤ 3 ∧ Hid (IsM .u32 62 w1.heap.size wz ⟨w.heap.size + 1, w.heap.size, A3, c3⟩ (stMc ⟨19, 0, 0, 0, a2⟩ R)) ∧ Hid (Below w.heap.size w wz)) (fun i _ => 3 - (intOf i).toNat)
          case atStart => exact ⟨0, rfl, by omega, HM5, HB5⟩
          case round =>
            obtain ⟨j, rfl, hj, hIz, hBz⟩ := hrel
            by_cases hj3 : j < 3
            · go_wp2_with fail
              refine (HSTP.out _ hIz.out).mono ?_
              rintro e w7 ⟨rfl, hM7, hT7⟩
              have HB7 := Lib.hid (turn_below hT7 hBz.out hBz.out.size (by simp) (by simp))
              have HM7 := Lib.hid hM7
              have hat : Calls Try.prog 22 #[.pointer (some ⟨w.heap.size + 1, 0, none⟩)] w7 fun e w' => e = .returned (.int .i64 0) ∧ w7 = w' := at_any w7 hM7
              have HAT := Lib.hid hat
              clear hM7 hT7 hat
              go_wp2_with (first
                | (go_at_call 22; refine HAT.out.mono ?_; rintro e w8 ⟨rfl, rfl⟩)
                | (go_at_call 25; refine (HREG.out _ HM7.out).mono ?_; rintro e w8 ⟨rfl, rfl⟩)
                | (go_at_call 26; refine (HWRD.out _ HM7.out).mono ?_; rintro e w8 ⟨rfl, rfl⟩))
              go_roundw
              case rel => exact ⟨j + 1, by go_num, by omega, HM7, HB7⟩
              case measure => simp [intOf]; omega
            · go_wp2_with (go_at_call 19; refine (known_any _).mono ?_; rintro e w8 ⟨rfl, hb8⟩)
              go_ret
              exact ⟨rfl, hBz.out.trans (hb8.mono hBz.out.size)⟩

set_option maxRecDepth 100000 in
set_option maxHeartbeats 4000000 in
theorem stands_18 (a0 : Int) (A1 : Option Addr) (len1 cap1 : Nat) (z1 : List Int) (a2 : Int) (w : World) (w0 : (Lit.int .i64 a0).wf = true) (w1 : IsRow .u64 w A1 len1 cap1 z1) (w2 : (Lit.int .u32 a2).wf = true) (hj : wdV a0 0 3 = 3) :
    Calls Try.prog 7 #[.int .i64 a0, .slice A1 len1 cap1, .int .u32 a2] w fun e w' => e = .returned (.bool true) ∧ Below w.heap.size w w' := by
  obtain ⟨b0, b1⟩ := i64_of_wf w0
  obtain ⟨n0, n1⟩ := u32_of_wf w2
  obtain ⟨hl1, hc1, hA1, l, hlen, hlw, hrd⟩ := w1.rd
  subst hlen
  have hwi := within_book a0 3 b0 b1 (by omega) (by omega)
  rw [hj] at hwi
  have hq : (⟨18, 0, 0, 0, a2⟩ : Hi).Ok := ⟨by simp [Hi.ok, okH, isO, uD, uA, uB, uN, rg], n0, n1⟩
  have HWI := Lib.hid hwi
  have HQ := Lib.hid hq
  have HLW := Lib.hid hlw
  have HRD := Lib.hid hrd
  have HE := Lib.hid (rencode_any 18 0 0 0 a2 n0 n1)
  have HRF := Lib.hid (rf_enc _ hq)
  unfold maxLen at hc1
  clear hwi hq hlw hrd w0 w1 w2 hj b0 b1 hA1
  go_enter Try.func7, Try.ntmps7
  go_wp2_with fail
  refine (new_any 4 4 rfl (by omega) (by omega) _).mono ?_
  rintro e w1 ⟨rfl, hb1, hz1, hM1⟩
  have hM := hM1 w1.heap.size (Nat.le_refl _)
  have HB1 := Lib.hid hb1
  have HM := Lib.hid hM
  have HZ := Lib.hid hz1
  clear hb1 hM1 hM hz1
  go_wp2_with (first
    | (go_at_call 20; refine (HWI.out _).mono ?_; rintro e w' ⟨rfl, rfl⟩)
    | (go_at_call 27; with_reducible refine (HE.out _).mono ?_
       rintro e w2 ⟨rfl, ho2, hb2⟩
       have hrf : rfV 18 0 0 0 a2 = encs [⟨18, 0, 0, 0, a2⟩] := by rw [enc_one]; exact HRF.out
       rw [hrf] at ho2
       have hbx := below_two w1 (.cells #[.int .i64 14, .int .i64 15, .int .i64 19, .int .i64 18] 3) (.cells #[.int .i64 18, .int .i64 0, .int .i64 0, .int .i64 0, .int .u32 a2] 35)
       have hb12 := hbx.trans (hb2.mono (by simp; omega))
       have hM2 := HM.out.below hb12
       have hB2 := HB1.out.trans (hb12.mono HB1.out.size)
       have hz2 := hb12.size
       have hp2 := Rd.of_own ho2
       have hk5 : Blk w2 (w1.heap.size + 1) 35 #[.int .i64 18, .int .i64 0, .int .i64 0, .int .i64 0, .int .u32 a2] := by
         have h5 := (Blk.new (w1.alloc (.cells #[.int .i64 14, .int .i64 15, .int .i64 19, .int .i64 18] 3)) 35 #[.int .i64 18, .int .i64 0, .int .i64 0, .int .i64 0, .int .u32 a2])
         simp only [World.size_alloc] at h5
         exact h5.below hb2 (by simp)
       have hlo := load_any _ _ _ _ _ 8 (encs [⟨18, 0, 0, 0, a2⟩]) (by rw [enc_one]; exact Nat.le_refl _) (by unfold maxLen; omega) (by rw [enc_one, Hi.enc_len]; omega) w2 (by omega) hM2 hp2
       simp only [World.size_alloc] at hlo
       have HLO := Lib.hid hlo
       have HB2 := Lib.hid hB2
       have HK5 := Lib.hid hk5
       clear hrf ho2 hb2 hbx hb12 hM2 hB2 hp2 hlo hk5 HE)
    | (go_at_call 11; refine HLO.out.mono ?_
       intro e w3 hld
       obtain ⟨rfl, hT3, A3, c3, hM3⟩ := hld.enc (by intro p hp; rw [List.mem_singleton] at hp; subst hp; exact HQ.out)
       have hB3 := turn_below hT3 HB2.out HB2.out.size (by simp) (by simp)
       have hk3 : Blk w3 (w1.heap.size + 1) 35 #[.int .i64 18, .int .i64 0, .int .i64 0, .int .i64 0, .int .u32 a2] := (hT3.block _ HK5.out.lt (by have := HZ.out; simp; omega) (by have := HZ.out; simp; omega)).trans HK5.out
       have HM3 := Lib.hid (show IsM .u32 62 w1.heap.size w3 ⟨w.heap.size + 1, w.heap.size, A3, c3⟩ (stMc ⟨18, 0, 0, 0, a2⟩ (mc0 4).R) from hM3)
       have HB3 := Lib.hid hB3
       have HK3 := Lib.hid hk3
       have HZ3 := Lib.hid hT3.size
       clear hld hT3 hM3 hB3 hk3 HLO HB2 HK5 HM))
  go_loopw [10] (fun i wr => ∃ (k : Nat) (R : List Int), i = .int .i64 k ∧ k ≤ 16 ∧ Hid (IsM .u32 62 w1.heap.size wr ⟨w.heap.size + 1, w.heap.size, A3, c3⟩ (stMc ⟨18, 0, 0, 0, a2⟩ R)) ∧ Hid (Below w.heap.size w wr) ∧ Hid (Blk wr (w1.heap.size + 1) 35 #[.int .i64 18, .int .i64 0, .int .i64 0, .int .i64 0, .int .u32 a2])) (fun i _ => 16 - (intOf i).toNat)
  case atStart => exact ⟨0, _, rfl, by omega, HM3, HB3, HK3⟩
  case round =>
    obtain ⟨k, R, rfl, hk, hI, hB, hK⟩ := hrel
    by_cases hgo : k < l.length ∧ k < 16
    · obtain ⟨g1, g2⟩ := hgo
      obtain ⟨bl, ol, rfl, hbl, hcl⟩ := HRD.out (by simpa using (show 0 < l.length by omega))
      have e1 := hcl k _ (by rw [List.getElem?_map, List.getElem?_eq_getElem g1]; rfl)
      have d1 := (hB.out.cell (p := ⟨bl, _, none⟩) hbl).trans e1
      have hu := u64_of_wf (HLW.out _ (List.getElem_mem g1))
      clear hcl e1
      generalize l[k] = x at *
      have HSR := Lib.hid (setReg_any (k : Int) k rfl g2 x hu wr hI.out)
      clear hu
      go_wp2_with (go_at_call 13; refine HSR.out.mono ?_; rintro e w5 ⟨rfl, hM5, hT5⟩; have HM5 := Lib.hid hM5; have HB5 := Lib.hid (turn_below hT5 hB.out hB.out.size (by simp) (by simp)); have HK5 := Lib.hid ((hT5.block _ hK.out.lt (by have := HZ.out; simp; omega) (by have := HZ.out; simp; omega)).trans hK.out); clear hM5 hT5 HSR)
      go_roundw
      case rel => exact ⟨k + 1, _, by go_num, by omega, HM5, HB5, HK5⟩
      case measure => simp [intOf]; omega
    · have hend : l.length ≤ k ∨ (k < l.length ∧ 16 ≤ k) := by omega
      have hst := step_any _ _ _ _ wr hI.out
      have HST := Lib.hid hst
      clear hst hgo
      have hsr := one_stR (M := stMc ⟨18, 0, 0, 0, a2⟩ R) rfl rfl
      have hq0 := one_q (M := stMc ⟨18, 0, 0, 0, a2⟩ R) rfl rfl
      have HSR := Lib.hid hsr
      have HQ0 := Lib.hid hq0
      clear hsr hq0
      have hsplit : stR (stMc ⟨18, 0, 0, 0, a2⟩ R) = 0 ∨ stR (stMc ⟨18, 0, 0, 0, a2⟩ R) ≠ 0 := by omega
      have HEND := Lib.hid hend
      clear hend
      rcases hsplit with hs | hs
      · have hp1 : (stM (stMc ⟨18, 0, 0, 0, a2⟩ R)).p = a2 := by
          unfold stM; rw [HQ0.out, if_neg (by rw [hs]; simp)]; simp [stMc]
        have HS := Lib.hid hs
        have HP1 := Lib.hid hp1
        clear hs hp1
        rcases HEND.out with g1 | ⟨g1, g2⟩
        all_goals
          go_wp2_with fail
          refine HST.out.mono ?_
          rintro e w5 ⟨he, hM5, hT5⟩
          rw [HS.out] at he
          subst he
          have HB5 := Lib.hid (turn_below hT5 hB.out hB.out.size (by simp) (by simp))
          have HRG := Lib.hid (reg_any 0 w5 hM5)
          have hat := at_any w5 hM5
          rw [HP1.out] at hat
          have HAT := Lib.hid hat
          have hK5 : Blk w5 _ _ _ := ((hT5.block _ hK.out.lt (by have := HZ.out; simp; omega) (by have := HZ.out; simp; omega)).trans hK.out)
          have k0 := hK5.cell 0
          simp at k0
          generalize (stM (stMc ⟨18, 0, 0, 0, a2⟩ R)).reg 0 = rr at *
          clear hM5 hT5 HST hat hK5
          go_wp2_with fail
          refine HRG.out.mono ?_
          rintro e w6 ⟨rfl, rfl⟩
          clear HRG
          cases hz : (a2 == 0)
          · have hz2 : (a2 != 0) = true := by rw [bne, hz]; rfl
            go_wp2_with (first
              | (go_at_call 22; refine HAT.out.mono ?_; rintro e w7 ⟨rfl, rfl⟩; clear HAT)
              | (go_at_call 19; refine (known_any _).mono ?_; rintro e w8 ⟨rfl, hb8⟩))
            go_ret
            exact ⟨rfl, HB5.out⟩
          · have hz2 : (a2 != 0) = false := by rw [bne, hz]; rfl
            go_wp2_with (first
              | (go_at_call 22; refine HAT.out.mono ?_; rintro e w7 ⟨rfl, rfl⟩; clear HAT)
              | (go_at_call 19; refine (known_any _).mono ?_; rintro e w8 ⟨rfl, hb8⟩))
            go_ret
            exact ⟨rfl, HB5.out.trans (hb8.mono HB5.out.size)⟩
      · have hstp := fun W (h : IsM .u32 62 w1.heap.size W ⟨w.heap.size + 1, w.heap.size, A3, c3⟩ (stMc ⟨18, 0, 0, 0, a2⟩ R)) => step_stay rfl hs W h
        have hreg := fun W (h : IsM .u32 62 w1.heap.size W ⟨w.heap.size + 1, w.heap.size, A3, c3⟩ (stMc ⟨18, 0, 0, 0, a2⟩ R)) => reg_any 0 W h
        have hwrd := fun W (h : IsM .u32 62 w1.heap.size W ⟨w.heap.size + 1, w.heap.size, A3, c3⟩ (stMc ⟨18, 0, 0, 0, a2⟩ R)) => word_any 0 W h
        rw [stMc_word] at hwrd
        have hs1 : (stR (stMc ⟨18, 0, 0, 0, a2⟩ R) == 0) = false := by simpa using hs
        have hbs : stR (stMc ⟨18, 0, 0, 0, a2⟩ R) ≤ 4 := by rcases stR_bd (stMc ⟨18, 0, 0, 0, a2⟩ R) with h | h | h | h <;> omega
        generalize (stMc ⟨18, 0, 0, 0, a2⟩ R).reg 0 = rr at *
        generalize stR (stMc ⟨18, 0, 0, 0, a2⟩ R) = s at *
        have HSTP := Lib.hid hstp
        have HREG := Lib.hid hreg
        have HWRD := Lib.hid hwrd
        have HHS := Lib.hid hs
        clear hstp hreg hwrd hs hbs HST HSR HQ0
        rcases HEND.out with g1 | ⟨g1, g2⟩
        all_goals
          go_wp2_with fail
          refine (HSTP.out _ hI.out).mono ?_
          rintro e w5 ⟨rfl, hM5, hT5⟩
          have HB5 := Lib.hid (turn_below hT5 hB.out hB.out.size (by simp) (by simp))
          have HM5 := Lib.hid hM5
          clear hM5 hT5
          go_wp2_with fail
          refine (HREG.out _ HM5.out).mono ?_
          rintro e w6 ⟨rfl, rfl⟩
          go_wp2_with fail
          go_loopw [13] (fun i wz => ∃ j : Nat, i = .int .i64 j ∧ j ≤ 3 ∧ Hid (IsM .u32 62 w1.heap.size wz ⟨w.heap.size + 1, w.heap.size, A3, c3⟩ (stMc ⟨18, 0, 0, 0, a2⟩ R)) ∧ Hid (Below w.heap.size w wz)) (fun i _ => 3 - (intOf i).toNat)
          case atStart => exact ⟨0, rfl, by omega, HM5, HB5⟩
          case round =>
            obtain ⟨j, rfl, hj, hIz, hBz⟩ := hrel
            by_cases hj3 : j < 3
            · go_wp2_with fail
              refine (HSTP.out _ hIz.out).mono ?_
              rintro e w7 ⟨rfl, hM7, hT7⟩
              have HB7 := Lib.hid (turn_below hT7 hBz.out hBz.out.size (by simp) (by simp))
              have HM7 := Lib.hid hM7
              have hat : Calls Try.prog 22 #[.pointer (some ⟨w.heap.size + 1, 0, none⟩)] w7 fun e w' => e = .returned (.int .i64 0) ∧ w7 = w' := at_any w7 hM7
              have HAT := Lib.hid hat
              clear hM7 hT7 hat
              go_wp2_with (first
                | (go_at_call 22; refine HAT.out.mono ?_; rintro e w8 ⟨rfl, rfl⟩)
                | (go_at_call 25; refine (HREG.out _ HM7.out).mono ?_; rintro e w8 ⟨rfl, rfl⟩)
                | (go_at_call 26; refine (HWRD.out _ HM7.out).mono ?_; rintro e w8 ⟨rfl, rfl⟩))
              go_roundw
              case rel => exact ⟨j + 1, by go_num, by omega, HM7, HB7⟩
              case measure => simp [intOf]; omega
            · go_wp2_with (go_at_call 19; refine (known_any _).mono ?_; rintro e w8 ⟨rfl, hb8⟩)
              go_ret
              exact ⟨rfl, hBz.out.trans (hb8.mono hBz.out.size)⟩

theorem hmachStands_walk (a0 : Int) (A1 : Option Addr) (len1 cap1 : Nat) (z1 : List Int) (a2 : Int) (w : World) (w0 : (Lit.int .i64 a0).wf = true) (w1 : IsRow .u64 w A1 len1 cap1 z1) (w2 : (Lit.int .u32 a2).wf = true) :
    Calls Try.prog 7 #[.int .i64 a0, .slice A1 len1 cap1, .int .u32 a2] w fun e w' => e = .returned (.bool true) ∧ Below w.heap.size w w' := by
  obtain ⟨x0, x1⟩ := wdV_bd a0 0 3 (by omega)
  have h : wdV a0 0 3 = 0 ∨ wdV a0 0 3 = 1 ∨ wdV a0 0 3 = 2 ∨ wdV a0 0 3 = 3 := by omega
  rcases h with h | h | h | h
  · exact stands_14 a0 A1 len1 cap1 z1 a2 w w0 w1 w2 h
  · exact stands_15 a0 A1 len1 cap1 z1 a2 w w0 w1 w2 h
  · exact stands_19 a0 A1 len1 cap1 z1 a2 w w0 w1 w2 h
  · exact stands_18 a0 A1 len1 cap1 z1 a2 w w0 w1 w2 h
end Go.Proofs.Ytaghblcboimbpaa

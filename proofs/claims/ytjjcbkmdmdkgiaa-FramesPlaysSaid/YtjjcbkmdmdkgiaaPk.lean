/-
  innkeeperbook.Same of numbers, innkeeperlaw5.alike: A CONTRACT EACH.
-/
import Derived.Test.YtjjcbkmdmdkgiaaPy
import Derived.Outline
namespace Go.Proofs.Ytjjcbkmdmdkgiaa
open Go.RowKit
set_option linter.unusedSimpArgs false
set_option linter.unusedVariables false

set_option maxRecDepth 100000 in
theorem same_any (A B : Option Addr) (n c d : Nat) (L : List Nat) (hn : n = L.length) (hn2 : n ≤ 1000) (w : World) (hA : Rd w w.heap.size A (nv L)) (hB : Rd w w.heap.size B (nv L)) :
    Calls Try.prog 27 #[.slice A n c, .slice B n d] w fun e w' => e = .returned (.bool true) ∧ Below w.heap.size w w' := by
  have HA := Lib.hid hA
  have HB := Lib.hid hB
  have HN := Lib.hid hn
  clear hA hB hn
  go_enter Try.func27, Try.ntmps27
  go_wp2_with fail
  go_loopw [5] (fun i wr => ∃ k : Nat, k ≤ n ∧ i = .int .i64 k ∧ Hid (Below w.heap.size w wr)) (fun i _ => n - (intOf i).toNat)
  case atStart => exact ⟨0, by omega, rfl, Lib.hid (Below.refl _ _)⟩
  case round =>
    obtain ⟨k, hk, rfl, hW⟩ := hrel
    by_cases hlt : k < n
    · have hkl : k < L.length := by have := HN.out; omega
      obtain ⟨b, off, rfl, hb, hc⟩ := HA.out (by rw [nv_len]; omega)
      obtain ⟨b2, off2, rfl, hb2, hc2⟩ := HB.out (by rw [nv_len]; omega)
      have hck := (hW.out.cell (p := ⟨b, off + k, none⟩) hb).trans (hc k _ (nv_get hkl))
      have hck2 := (hW.out.cell (p := ⟨b2, off2 + k, none⟩) hb2).trans (hc2 k _ (nv_get hkl))
      have hk0 : (0 : Int) ≤ (k : Int) := by omega
      have hkn : (k : Int) < (n : Int) := by omega
      clear hc hc2
      generalize L[k] = x at *
      clear hkl
      have hself : ((x : Int) != (x : Int)) = false := by simp
      go_wp2
      go_quiet (fail)
      go_wp2
      go_roundw
      case rel => exact ⟨k + 1, by omega, by go_num, Lib.hid (Below_drewN hW.out _)⟩
      case measure => simp [intOf]; omega
    · obtain rfl : k = n := by omega
      clear hk hlt
      go_wp2
      go_ret
      exact ⟨rfl, hW.out⟩
section
variable {g h : Nat} {S : Po}
set_option maxRecDepth 100000 in
set_option maxHeartbeats 2000000 in
theorem alike_any (w : World) (hP : IsP w g S) (hR : IsR w h S) :
    Calls Try.prog 10 #[.pointer (some ⟨g, 0, none⟩), .pointer (some ⟨h, 0, none⟩)] w fun e w' => e = .returned (.bool true) ∧ Below w.heap.size w w' := by
  have HP := Lib.hid hP
  have HR := Lib.hid hR
  clear hP hR
  go_enter Try.func10, Try.ntmps10
  go_wp2_with fail
  go_loop [5] (fun v => ∃ i : Int, -1 ≤ i ∧ i ≤ 257 ∧ v = .int .i64 i) (fun v => (257 - intOf v).toNat)
  case atStart => exact ⟨-1, by omega, by omega, rfl⟩
  case round =>
    obtain ⟨i, hi0, hi1, rfl⟩ := hrel
    by_cases hlt : i ≤ 256
    · have how := owner_any i _ HP.out
      by_cases hin : 0 ≤ i ∧ i < 256
      · obtain ⟨k, rfl⟩ := Int.eq_ofNat_of_zero_le hin.1
        have hk : k < 256 := by omega
        have hki : (k : Int) < 256 := by omega
        have hk0 : (0 : Int) ≤ (k : Int) := by omega
        have hc := HR.out.ow k hk
        unfold Po.who at how
        rw [hB_nat hk, Int.toNat_natCast] at how
        cases hb : neB (S.own k)
        · rw [hb] at how
          simp only [Bool.false_eq_true, if_false] at how
          have HOW := Lib.hid how
          have hneg : S.own k < 0 := by simpa [neB] using hb
          clear how hb hin hlt
          generalize S.own k = x at *
          go_wp2_with (go_at_call 21; refine HOW.out.mono ?_; rintro e w' ⟨rfl, rfl⟩)
          go_round
          case rel => exact ⟨(k : Int) + 1, by omega, by omega, rfl⟩
          case measure => simp [intOf]; omega
        · rw [hb] at how
          simp only [if_true] at how
          have HOW := Lib.hid how
          have hpos : 0 ≤ S.own k := by simpa [neB] using hb
          have hself : (S.own k != S.own k) = false := by simp
          clear how hb hin hlt
          generalize S.own k = x at *
          go_wp2_with (go_at_call 21; refine HOW.out.mono ?_; rintro e w' ⟨rfl, rfl⟩)
          go_round
          case rel => exact ⟨(k : Int) + 1, by omega, by omega, rfl⟩
          case measure => simp [intOf]; omega
      · have hb : S.hB i = false := by unfold Po.hB; have : fB i = false := by { simp [fB]; omega }; rw [this]; rfl
        unfold Po.who at how
        rw [hb] at how
        simp only [Bool.false_eq_true, if_false] at how
        have HOW := Lib.hid how
        clear how hb
        rcases (show i = -1 ∨ i = 256 by omega) with rfl | rfl
        all_goals
          clear hi0 hi1 hlt hin
          go_wp2_with (go_at_call 21; refine HOW.out.mono ?_; rintro e w' ⟨rfl, rfl⟩)
          go_round
          case rel => exact ⟨_, by omega, by omega, rfl⟩
          case measure => simp [intOf]
    · have HI := Lib.hid (show i = 257 by omega)
      have hgt : 256 < i := by omega
      clear hi0 hi1 hlt
      go_wp2_with fail
      clear hgt
      go_loopw [9] (fun v wr => ∃ o : Int, -1 ≤ o ∧ o ≤ 5 ∧ v = .int .i64 o ∧ Hid (Below w.heap.size w wr)) (fun v _ => (5 - intOf v).toNat)
      case atStart => exact ⟨-1, by omega, by omega, rfl, Lib.hid (Below.refl _ _)⟩
      case round =>
        clear HI
        obtain ⟨o, ho0, ho1, rfl, hB⟩ := hrel
        have hP2 := Lib.hid (HP.out.below (hB.out.mono (Nat.le_refl _)))
        have hR2 := Lib.hid (HR.out.below (hB.out.mono (Nat.le_refl _)))
        have hz := hB.out.size
        by_cases hlt : o ≤ 4
        · have hpr := promised_any o _ hP2.out
          have hle := heldL_le S o 256
          have hhd := held_any o _ hP2.out
          unfold Held at hhd
          have hrd := fun (W : World) (hb : Below wr.heap.size wr W) => rheld_any o W (hR2.out.below hb)
          unfold Held at hrd
          generalize hL : S.heldL o 256 = L at *
          generalize hn : L.length = n at *
          have HN := Lib.hid hn
          have HHD := Lib.hid hhd
          have HRD := Lib.hid hrd
          clear hL hn hhd hrd
          unfold Po.got at hpr
          by_cases hin : 0 ≤ o ∧ o < 4
          · obtain ⟨k, rfl⟩ := Int.eq_ofNat_of_zero_le hin.1
            have hk : k < 4 := by omega
            have hki : (k : Int) < 4 := by omega
            have hk0 : (0 : Int) ≤ (k : Int) := by omega
            have hc := hR2.out.pr k hk
            have hob : oB (k : Int) = true := by simp [oB]; omega
            rw [if_pos hob, Int.toNat_natCast] at hpr
            clear hob hin hlt ho0 ho1
            by_cases hp : 0 < S.prom k
            · have e : pos (S.prom k) = S.prom k := by unfold pos; rw [if_pos (by omega)]
              rw [e] at hpr
              have HPR := Lib.hid hpr
              have hself : (S.prom k != S.prom k) = false := by simp
              clear hpr e
              generalize S.prom k = x at *
              go_wp2_with (first
                | (go_at_call 20; refine HPR.out.mono ?_; rintro e w' ⟨rfl, rfl⟩)
                | (go_at_call 14; refine HHD.out.mono ?_; rintro e w1 ⟨A1, c1, rfl, hO1, hb1⟩; have HO1 := Lib.hid hO1; have HB1 := Lib.hid hb1; clear hO1 hb1)
                | (go_at_call 28; refine (HRD.out _ HB1.out).mono ?_; rintro e w2 ⟨A2, c2, rfl, hO2, hb2⟩; have HO2 := Lib.hid hO2; have HB2 := Lib.hid hb2; clear hO2 hb2)
                | (go_at_call 27; refine (same_any A1 A2 n c1 c2 L HN.out.symm (by omega) _ (Rd.of_own (own_below HO1.out HB2.out)) (Rd.of_own HO2.out)).mono ?_; rintro e w3 ⟨rfl, hb3⟩; have HB3 := Lib.hid hb3; clear hb3))
              go_roundw
              case rel => exact ⟨(k : Int) + 1, by omega, by omega, rfl, Lib.hid (((hB.out.trans (HB1.out.mono hz)).trans (HB2.out.mono (by have := HB1.out.size; omega))).trans (HB3.out.mono (by have := HB1.out.size; have := HB2.out.size; omega)))⟩
              case measure => simp [intOf]; omega
            · have e : pos (S.prom k) = 0 := by unfold pos; split <;> omega
              rw [e] at hpr
              have HPR := Lib.hid hpr
              clear hpr e
              generalize S.prom k = x at *
              go_wp2_with (first
                | (go_at_call 20; refine HPR.out.mono ?_; rintro e w' ⟨rfl, rfl⟩)
                | (go_at_call 14; refine HHD.out.mono ?_; rintro e w1 ⟨A1, c1, rfl, hO1, hb1⟩; have HO1 := Lib.hid hO1; have HB1 := Lib.hid hb1; clear hO1 hb1)
                | (go_at_call 28; refine (HRD.out _ HB1.out).mono ?_; rintro e w2 ⟨A2, c2, rfl, hO2, hb2⟩; have HO2 := Lib.hid hO2; have HB2 := Lib.hid hb2; clear hO2 hb2)
                | (go_at_call 27; refine (same_any A1 A2 n c1 c2 L HN.out.symm (by omega) _ (Rd.of_own (own_below HO1.out HB2.out)) (Rd.of_own HO2.out)).mono ?_; rintro e w3 ⟨rfl, hb3⟩; have HB3 := Lib.hid hb3; clear hb3))
              go_roundw
              case rel => exact ⟨(k : Int) + 1, by omega, by omega, rfl, Lib.hid (((hB.out.trans (HB1.out.mono hz)).trans (HB2.out.mono (by have := HB1.out.size; omega))).trans (HB3.out.mono (by have := HB1.out.size; have := HB2.out.size; omega)))⟩
              case measure => simp [intOf]; omega
          · have hob : oB o = false := by simp [oB]; omega
            rw [if_neg (by simp [hob])] at hpr
            have HPR := Lib.hid hpr
            clear hpr hob
            rcases (show o = -1 ∨ o = 4 by omega) with rfl | rfl
            all_goals
              clear ho0 ho1 hlt hin
              go_wp2_with (first
                | (go_at_call 20; refine HPR.out.mono ?_; rintro e w' ⟨rfl, rfl⟩)
                | (go_at_call 14; refine HHD.out.mono ?_; rintro e w1 ⟨A1, c1, rfl, hO1, hb1⟩; have HO1 := Lib.hid hO1; have HB1 := Lib.hid hb1; clear hO1 hb1)
                | (go_at_call 28; refine (HRD.out _ HB1.out).mono ?_; rintro e w2 ⟨A2, c2, rfl, hO2, hb2⟩; have HO2 := Lib.hid hO2; have HB2 := Lib.hid hb2; clear hO2 hb2)
                | (go_at_call 27; refine (same_any A1 A2 n c1 c2 L HN.out.symm (by omega) _ (Rd.of_own (own_below HO1.out HB2.out)) (Rd.of_own HO2.out)).mono ?_; rintro e w3 ⟨rfl, hb3⟩; have HB3 := Lib.hid hb3; clear hb3))
              go_roundw
              case rel => exact ⟨_, by omega, by omega, rfl, Lib.hid (((hB.out.trans (HB1.out.mono hz)).trans (HB2.out.mono (by have := HB1.out.size; omega))).trans (HB3.out.mono (by have := HB1.out.size; have := HB2.out.size; omega)))⟩
              case measure => simp [intOf]
        · have hgt : 4 < o := by omega
          have hf1 := free_any _ hP2.out
          have hf2 := rfree_any _ hR2.out
          have hself : ((S.freeN 256 : Int) == (S.freeN 256 : Int)) = true := by simp
          generalize S.freeN 256 = y at *
          have HF1 := Lib.hid hf1
          have HF2 := Lib.hid hf2
          clear hf1 hf2 ho0 ho1 hlt
          go_wp2_with (first
            | (go_at_call 22; refine HF1.out.mono ?_; rintro e w' ⟨rfl, rfl⟩)
            | (go_at_call 29; refine HF2.out.mono ?_; rintro e w' ⟨rfl, rfl⟩))
          go_ret
          exact ⟨rfl, hB.out⟩
end
end Go.Proofs.Ytjjcbkmdmdkgiaa

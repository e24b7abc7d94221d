/-
  innkeeperlaw7.RamMaps returns true: its walk.
-/
import Derived.Test.YtgohmchodgoceaaLw
import Derived.Test.YtgohmchodgoceaaLc
import Derived.Outline
namespace Go.Proofs.Ytgohmchodgoceaa
open Go.RowKit
set_option linter.unusedSimpArgs false
set_option linter.unusedVariables false

/-- Mapped, of a memory's table -/
theorem IsM.mapped {w : World} {p : Bl} {X : Rm} (hM : IsM w p X) : Calls Try.prog 21 #[.pointer (some ⟨p.h, 0, none⟩)] w (NewL (tuL X.mp X.n) w) := by
  obtain ⟨S, T, i⟩ := hM.inn
  have h := mapped_any w i.it
  have e : T.mapL T.n = tuL X.mp X.n := by
    rw [i.n]
    exact (tuL_congr (fun j hj => (i.mp j hj).symm))
  unfold Mapd at h
  rw [e] at h
  exact h
theorem put_n (X : Rm) (a : Nat) (L : List Int) : (X.putS a L).n = X.n := by unfold Rm.putS; split; exact wr_n _ _ _; rfl
theorem put_mp1 (X : Rm) (a : Nat) (x : Int) (h : a < X.n * 64) : (X.putS a [x]).mp = upd X.mp (a / 64) (X.mp (a / 64) || decide (x ≠ 0)) := by
  unfold Rm.putS; rw [if_pos (show a + [x].length ≤ _ from h)]; rfl
theorem ne_dec (y : Int) : (y != 0) = decide (y ≠ 0) := by by_cases h : y = 0 <;> simp [h]
set_option maxRecDepth 100000 in
set_option maxHeartbeats 4000000 in
theorem ramMaps_walk (A0 : Option Addr) (len0 cap0 : Nat) (z0 : List Int) (A1 : Option Addr) (len1 cap1 : Nat) (z1 : List Int) (w : World) (w0 : IsRow .u32 w A0 len0 cap0 z0) (w1 : IsRow .u8 w A1 len1 cap1 z1) :
    Calls Try.prog 5 #[.slice A0 len0 cap0, .slice A1 len1 cap1] w fun e w' => e = .returned (.bool true) ∧ Below w.heap.size w w' := by
  obtain ⟨hl0, hc0, _, l, hlen, hwf, hrd⟩ := w0.rd
  obtain ⟨hl1, hc1, _, v, hlenv, hwfv, hrdv⟩ := w1.rd
  have HRD := Lib.hid hrd
  have HWF := Lib.hid hwf
  have HLEN := Lib.hid hlen
  have HRV := Lib.hid hrdv
  have HWV := Lib.hid hwfv
  have HLV := Lib.hid hlenv
  have hb0 : len0 ≤ 9223372036854775807 := by unfold maxLen at hc0; omega
  have hb1 : len1 ≤ 9223372036854775807 := by unfold maxLen at hc1; omega
  have hmk := make_bool .i64 16 (by omega)
  simp only [Int.cast_ofNat_Int] at hmk
  have HNB := Lib.hid (new_bool 16)
  generalize madeCells #[Value.bool false] 16 = Z at *
  clear hrd hwf w0 w1 hlen hrdv hwfv hlenv hc0 hc1 hl0 hl1
  go_enter Try.func5, Try.ntmps5
  go_wp2_with fail
  refine (freshM_any 16 (by omega) (by omega) _).mono ?_
  rintro e wa ⟨p, rfl, hd⟩
  generalize hG : w.heap.size = B at *
  have HG := Lib.hid hG
  have hsa := hd.size hG
  have HD := Lib.hid (hd.keep hsa ((Below.refl _ _).alloc (Nat.le_refl _) (.cells Z 4)))
  have HU := Lib.hid (HNB.out wa)
  have HFU := Lib.hid (hd.m.off (Nat.le_refl _))
  have HSA := Lib.hid hsa
  clear hd HNB hG hsa
  go_wp2_with fail
  generalize wa.heap.size = ub at *
  generalize wa.alloc (.cells Z 4) = wb at *
  go_loopw [8] (fun i wr => ∃ (k : Nat) (X : Rm), k ≤ 30 ∧ k ≤ len0 ∧ k ≤ len1 ∧ i = .int .i64 k ∧ Hid (Me w B p wr X) ∧ Hid (IsU wr ub 16 X.mp) ∧ Hid (X.n = 16)) (fun i _ => 30 - (intOf i).toNat)
  case atStart => exact ⟨0, rm0 16, by omega, by omega, by omega, rfl, HD, HU, Lib.hid rfl⟩
  case round =>
    clear HD HU
    obtain ⟨k, X, hk, hk0, hk1, rfl, hD, hU, hN⟩ := hrel
    have hzr := hD.out.size HG.out
    by_cases hlt : k < len0 ∧ k < len1 ∧ k < 30
    · obtain ⟨h1, h2, h3⟩ := hlt
      have hkl : k < l.length := by have := HLEN.out; omega
      have hkv : k < v.length := by have := HLV.out; omega
      obtain ⟨b, off, rfl, hbg, hc⟩ := HRD.out (by rw [List.length_map]; omega)
      obtain ⟨b2, off2, rfl, hbg2, hc2⟩ := HRV.out (by rw [List.length_map]; omega)
      have hwB : B = w.heap.size := HG.out.symm
      have hck := (hD.out.b.cell (p := ⟨b, off + k, none⟩) (by show b < B; omega)).trans (hc k (.int .u32 l[k]) (by simp [List.getElem?_eq_getElem hkl]))
      have hcv : ∀ W, Below B w W → W.cell? ⟨b2, off2 + k, none⟩ = some (.int .u8 v[k]) := fun W hb => (hb.cell (p := ⟨b2, off2 + k, none⟩) (by show b2 < B; omega)).trans (hc2 k (.int .u8 v[k]) (by simp [List.getElem?_eq_getElem hkv]))
      obtain ⟨x0, x1⟩ := u32_of_wf (HWF.out _ (List.getElem_mem hkl))
      have hy := u8_of_wf (HWV.out _ (List.getElem_mem hkv))
      have hcv1 := hcv wr hD.out.b
      have HCV := Lib.hid hcv
      generalize l[k] = x at *
      generalize v[k] = y at *
      obtain ⟨a, ha⟩ : ∃ a : Nat, x % 1024 = a := ⟨(x % 1024).toNat, by omega⟩
      have ha2 : a < 1024 := by omega
      obtain ⟨q, hq⟩ : ∃ q : Nat, (a : Int) / 64 = q := ⟨a / 64, by omega⟩
      have hq2 : a / 64 = q := by omega
      have hq3 : q < 16 := by omega
      have hput := putM_any a (by omega) y hy wr hD.out.m
      rw [decide_eq_true (show a < X.n * 64 by rw [hN.out]; omega)] at hput
      have hmp := put_mp1 X a y (by rw [hN.out]; omega)
      have hpn := put_n X a [y]
      rw [hq2] at hmp
      have HP := Lib.hid hput
      have HMP := Lib.hid hmp
      have HPN := Lib.hid hpn
      generalize X.putS a [y] = Y at *
      have i1 : (k : Int) < (len0 : Int) := by omega
      have i2 : (k : Int) < (len1 : Int) := by omega
      have i3 : (k : Int) < 30 := by omega
      have i4 : (q : Int) < 16 := by omega
      have HQ := Lib.hid hq3
      clear hc hc2 hkl hkv hcv hput hmp hpn ha2 hq2 hq3 hwB
      unfold Left at HP
      cases hb : X.mp q
      all_goals
        rw [hb] at HMP
        simp only [Bool.false_or, Bool.true_or] at HMP
        go_wp2_with (go_at_call 19; refine HP.out.mono ?_; rintro e w2 ⟨rfl, hm2, ha2⟩
                     have HD2 := Lib.hid (hD.out.left hzr hm2 ha2)
                     have HU2 := Lib.hid (IsC.alt hU.out ha2 HFU.out.1.symm HFU.out.2.2.1.symm HFU.out.2.2.2.2.symm)
                     have hcv2 := HCV.out _ HD2.out.b
                     have d1 := HU2.out.cell q HQ.out
                     have d2 := HU2.out.frozen q
                     rw [hb] at d1
                     clear HP hm2 ha2 hcv1)
        go_round
        case rel =>
          refine ⟨k + 1, Y, by omega, by omega, by omega, by go_num, Lib.hid (HD2.out.far HFU.out HSA.out q _), ?_, by rw [HPN.out]; exact hN⟩
          rw [HMP.out]
          first
            | exact Lib.hid (IsU.set HU2.out q true)
            | exact Lib.hid ((IsU.set HU2.out q (y != 0)).cast fun j _ => by rw [ne_dec])
        case measure => simp [intOf]; omega
    · have hmk8 := make_u8 .i64 64 (by omega)
      simp only [Int.cast_ofNat_Int] at hmk8
      have HNZ := Lib.hid (new_u8 64)
      generalize madeCells #[Value.int .u8 0] 64 = Z8 at *
      have hS0 : ∀ W g, IsB W g 64 (fun _ => 0) → (convert 29 9 (.slice (some ⟨g, 0, none⟩) 64 64)).run Try.prog W = .ok (.string (strL (rowL (fun _ => 0) 64))) W := fun W g h => conv_B h (fun _ _ => by omega) 64
      generalize strL (rowL (fun _ => 0) 64) = S0 at *
      have HS0 := Lib.hid hS0
      clear hS0
      rcases (show len0 ≤ k ∨ (k < len0 ∧ len1 ≤ k) ∨ (k < len0 ∧ k < len1 ∧ 30 ≤ k) by omega) with hex | ⟨hex, hex2⟩ | ⟨hex, hex2, hex3⟩
      all_goals
        clear hlt
        go_wp2_with fail
        go_loopw [10, 11] (fun n i wr => ∃ j : Nat, j ≤ 16 ∧ i = .int .i64 j ∧ n = .int .i64 (tuL X.mp j).length ∧ Hid (Me w B p wr X) ∧ Hid (IsU wr ub 16 X.mp)) (fun _ i _ => 16 - (intOf i).toNat)
        case atStart => exact ⟨0, by omega, rfl, rfl, hD, hU⟩
        case round =>
          clear hD hU
          obtain ⟨j, hj, rfl, rfl, hD, hU⟩ := hrel
          have hzr := hD.out.size HG.out
          by_cases hlt : j < 16
          · obtain ⟨f, hfr⟩ := hD.out.m.frame j (by rw [hN.out]; exact hlt)
            have hpg := page_ok j (by rw [hN.out]; exact hlt) _ hD.out.m
            have d1 := hU.out.cell j hlt
            have hs := tuL_succ X.mp j
            have hle := tuL_le X.mp j
            have j0 : (0 : Int) ≤ (j : Int) := by omega
            have j1 : (j : Int) < 16 := by omega
            have HF := Lib.hid hfr
            have HPG := Lib.hid hpg
            unfold NewB at HPG
            cases hb : X.mp j
            · rw [hb] at HF hs d1
              simp only [Bool.false_eq_true, if_false, List.append_nil] at hs
              have HS := Lib.hid hs
              have hz := fun a (ha : a < 64) => hD.out.m.zero (j * 64 + a) (by rw [hN.out]; omega) (by rw [show (j * 64 + a) / 64 = j by omega]; exact hb)
              have HZ := Lib.hid hz
              clear hs hb hz hfr hpg
              go_wp2_with (first
                | (go_at_call 20; refine HF.out.mono ?_; rintro e w' ⟨rfl, rfl⟩)
                | (go_at_call 13; refine HPG.out.mono ?_; rintro e w2 ⟨g2, rfl, hg2, hb2, hw2⟩
                   have HD2 := Lib.hid (hD.out.keep hzr hw2)
                   have HU2 := Lib.hid (IsC.after hU.out hw2)
                   have HB2 := Lib.hid (hb2.cast (F' := fun _ => 0) fun a ha => (HZ.out a ha).symm)
                   clear HF HPG hb2 hw2))
              have hcv := HS0.out _ _ (IsC.after HB2.out (Below.refl _ _).drew)
              have hcv1 := HS0.out _ _ (IsC.after (IsC.after HB2.out ((Below.refl _ _).alloc (Nat.le_refl _) (.cells Z8 5))) (Below.refl _ _).drew)
              have hcv2 := HS0.out _ _ (IsC.after (HNZ.out w2) (Below.refl _ _).drew)
              go_region
              go_wp2
              go_roundw
              case rel =>
                have hsz : w2.heap.size ≤ (w2.alloc (.cells Z8 5)).drew.heap.size := by simp
                exact ⟨j + 1, by omega, by go_num, by rw [HS.out], Lib.hid (HD2.out.keep (HD2.out.size HG.out) (((Below.refl _ _).alloc (Nat.le_refl _) _).drew)), Lib.hid (IsC.after HU2.out (((Below.refl _ _).alloc (Nat.le_refl _) _).drew))⟩
              case measure => simp [intOf]; omega
            · rw [hb] at HF hs d1
              simp only [if_true] at hs
              have hlen : (tuL X.mp (j + 1)).length = (tuL X.mp j).length + 1 := by rw [hs]; simp
              have HS := Lib.hid hlen
              clear hs hb hfr hpg hlen
              generalize (tuL X.mp j).length = c at *
              go_wp2_with (first
                | (go_at_call 20; refine HF.out.mono ?_; rintro e w' ⟨rfl, rfl⟩)
                | (go_at_call 13; refine HPG.out.mono ?_; rintro e w2 ⟨g2, rfl, hg2, hb2, hw2⟩
                   have HD2 := Lib.hid (hD.out.keep hzr hw2)
                   have HU2 := Lib.hid (IsC.after hU.out hw2)
                   clear HF HPG hb2 hw2))
              go_region
              go_wp2
              go_roundw
              case rel =>
                exact ⟨j + 1, by omega, by go_num, by rw [HS.out]; rfl, Lib.hid (HD2.out.keep (HD2.out.size HG.out) (Below.refl _ _).drew), Lib.hid (IsC.after HU2.out (Below.refl _ _).drew)⟩
              case measure => simp [intOf]; omega
          · obtain rfl : j = 16 := by omega
            have hmp := hD.out.m.mapped
            rw [hN.out] at hmp
            have hle := tuL_le X.mp 16
            unfold NewL at hmp
            have HMP := Lib.hid hmp
            clear hmp hlt
            generalize (tuL X.mp 16).length = c at *
            go_wp2_with (first
              | (go_at_call 21; refine HMP.out.mono ?_; rintro e w2 ⟨A2, c2, rfl, _, hw2⟩; have HW2 := Lib.hid hw2; clear hw2)
              | (go_at_call 15; refine (known_any _).mono ?_; rintro e w3 ⟨rfl, hw3⟩; have HW3 := Lib.hid hw3; clear hw3))
            go_ret
            exact ⟨rfl, by rw [HG.out]; exact hD.out.b.trans ((HW2.out.mono hzr).trans (HW3.out.mono (by have := HW2.out.size; omega)))⟩
end Go.Proofs.Ytgohmchodgoceaa

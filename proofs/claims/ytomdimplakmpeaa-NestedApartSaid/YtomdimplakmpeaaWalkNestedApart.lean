/-
  innkeeperlaw6.NestedApart returns true: its walk.
-/
import Derived.Test.YtomdimplakmpeaaTr
import Derived.Test.YtomdimplakmpeaaRowA
import Derived.Test.YtomdimplakmpeaaWi
import Derived.Outline
namespace Go.Proofs.Ytomdimplakmpeaa
open Go.RowKit
set_option linter.unusedSimpArgs false
set_option linter.unusedVariables false

theorem two1 : newE po0 ((0 : Nat) : Int) ((64 : Nat) : Int) = 0 := by decide +kernel
theorem two2 : newE (po0.promS ((0 : Nat) : Int) ((64 : Nat) : Int)) ((3 : Nat) : Int) ((64 : Nat) : Int) = 0 := by decide +kernel
theorem two3 : po0.promV ((0 : Nat) : Int) ((64 : Nat) : Int) = 0 := by decide +kernel
theorem two4 : (po0.promS ((0 : Nat) : Int) ((64 : Nat) : Int)).promV ((3 : Nat) : Int) ((64 : Nat) : Int) = 0 := by decide +kernel
theorem newS_ok {S : Po} {o n : Int} (h : newE S o n = 0) : newS S o n = S.promS o n := by unfold newS; rw [if_pos h]
/-- a list of pages that stands -/
theorem nv_at {w : World} {B : Nat} {A : Option Addr} {e : TypeId} {n c : Nat} {L : List Nat} (h : w.ownsRow B e 1 (.slice A n c) n (nv L)) (k : Nat) (hk : k < L.length) :
    ∃ b off, A = some ⟨b, off, none⟩ ∧ b < w.heap.size ∧ w.cell? ⟨b, off + k, none⟩ = some (.int .i64 (L[k] : Int)) := by
  obtain ⟨b, off, e1, h1, h2⟩ := (Rd.of_own h) (by rw [nv_len]; omega)
  exact ⟨b, off, e1, h1, h2 k _ (nv_get hk)⟩
theorem mapL_at {T : Ta} {n k : Nat} {P : List Nat} (e : T.mapL n = P) (h : k < P.length) : P[k] < n ∧ 0 ≤ T.fr P[k] := by subst e; exact mapL_mem.1 (List.getElem_mem h)
set_option maxRecDepth 100000 in
set_option maxHeartbeats 4000000 in
theorem nestedApart_walk (A0 : Option Addr) (len0 cap0 : Nat) (L0 : List Ak) (A1 : Option Addr) (len1 cap1 : Nat) (L1 : List Ak) (w : World) (w0 : RowA w A0 len0 cap0 L0) (w1 : RowA w A1 len1 cap1 L1) :
    Calls Try.prog 5 #[.slice A0 len0 cap0, .slice A1 len1 cap1] w fun e w' => e = .returned (.bool true) ∧ Below w.heap.size w w' := by
  obtain ⟨hlen, hl0, hc0, hA0, hrd, hin⟩ := w0
  obtain ⟨hlen1, hl1, hc1, hA1, hrd1, hin1⟩ := w1
  have HRD := Lib.hid hrd
  have HIN := Lib.hid hin
  have HLEN := Lib.hid hlen
  have HRD1 := Lib.hid hrd1
  have HIN1 := Lib.hid hin1
  have HLEN1 := Lib.hid hlen1
  unfold maxLen at hc0 hc1
  clear hrd hin hA0 hlen hrd1 hin1 hA1 hlen1
  go_enter Try.func5, Try.ntmps5
  go_wp2_with fail
  refine (newP_any _).mono ?_
  rintro e w1 ⟨rfl, hp1, hb1⟩
  have hz1 := hp1.z
  have HP1 := Lib.hid hp1
  have HB1 := Lib.hid hb1
  clear hp1 hb1
  generalize hG : w.heap.size = g at *
  have HG := Lib.hid hG
  go_wp2_with fail
  refine (newT_any (g := g) ((0 : Nat) : Int) ((64 : Nat) : Int) _ HP1.out).mono ?_
  rintro e w2 ⟨hp2, ht2, ⟨hne, _⟩ | ⟨_, h1, r1, rfl, hh1, hr1, hT1⟩⟩
  · exact absurd two1 hne
  rw [newS_ok two1] at hp2
  have hs2 := ht2.size
  have HP2 := Lib.hid hp2
  have HB2 := Lib.hid (ht2.below (Nat.le_refl _) (Nat.le_refl _) HB1.out (by omega))
  have HT1 := Lib.hid hT1
  clear hp2 ht2 hT1
  go_wp2_with fail
  refine (newT_any (g := g) ((3 : Nat) : Int) ((64 : Nat) : Int) _ HP2.out).mono ?_
  rintro e w3 ⟨hp3, ht3, ⟨hne, _⟩ | ⟨_, h2, r2, rfl, hh2, hr2, hT2⟩⟩
  · exact absurd two2 hne
  rw [newS_ok two2] at hp3
  have hzz1 := HT1.out.zh
  have hzz2 := HT1.out.zr
  have HD := Lib.hid (show Trio w g g h1 r1 0 h2 r2 3 64 w3 _ _ _ from
    ⟨hp3, HT1.out.turnP ht3, hT2, (joint_0 ok_0 0 64 (by omega) (by omega) two3).promS 3 _ (by show 3 ≠ 0; omega), joint_0 (ok_prom ok_0 _ _) 3 64 (by omega) (by omega) two4, ok_prom (ok_prom ok_0 _ _) _ _, rfl, rfl, by omega, rfl, rfl, ht3.below (Nat.le_refl _) (Nat.le_refl _) HB2.out (by omega), Nat.le_refl _, by omega, by omega, by omega, by omega, by omega, by omega, by omega⟩)
  clear HP1 HP2 HB1 HB2 HT1 hp3 ht3 hT2 hz1 hs2 hh1 hr1 hh2 hr2 hzz1 hzz2 hG
  go_wp2_with fail
  go_loopw [10] (fun i wr => ∃ (k : Nat) (S : Po) (T1 T2 : Ta), k ≤ 50 ∧ k ≤ len0 ∧ k ≤ len1 ∧ i = .int .i64 k ∧ Hid (Trio w g g h1 r1 0 h2 r2 3 64 wr S T1 T2)) (fun i _ => 50 - (intOf i).toNat)
  case atStart => exact ⟨0, _, _, _, by omega, by omega, by omega, rfl, HD⟩
  case round =>
    clear HD
    obtain ⟨k, S, T1, T2, hk, hkn, hkm, rfl, hD⟩ := hrel
    by_cases hlt : k < len0 ∧ k < len1 ∧ k < 50
    · obtain ⟨l1, l2, l3⟩ := hlt
      have hle1 : (k : Int) < (len0 : Int) := by omega
      have hle2 : (k : Int) < (len1 : Int) := by omega
      have hle3 : (k : Int) < 50 := by omega
      go_wp2_with fail
      have hkl0 : k < L0.length := by have := HLEN.out; omega
      have hkl1 : k < L1.length := by have := HLEN1.out; omega
      obtain ⟨b0, off0, rfl, hbg0, hcc0⟩ := HRD.out (by omega)
      obtain ⟨b1, off1, rfl, hbg1, hcc1⟩ := HRD1.out (by omega)
      obtain ⟨hca0, hcb0⟩ := hcc0 k hkl0
      obtain ⟨hca1, hcb1⟩ := hcc1 k hkl1
      obtain ⟨u0, u1⟩ := i64_of_wf (HIN.out _ (List.getElem_mem hkl0)).p
      obtain ⟨u2, u3⟩ := i64_of_wf (HIN1.out _ (List.getElem_mem hkl1)).p
      generalize (L0[k]).p = x0 at *
      generalize (L0[k]).k = kd0 at *
      generalize (L1[k]).p = x1 at *
      generalize (L1[k]).k = kd1 at *
      have HCA := Lib.hid (And.intro hca0 (And.intro hcb0 (And.intro hca1 hcb1)))
      have HBG := Lib.hid (show b0 < g ∧ b1 < g by have := HG.out; omega)
      have hwd0 := within_book x0 63 u0 u1 (by omega) (by omega)
      have hwd1 := within_book x1 63 u2 u3 (by omega) (by omega)
      obtain ⟨y0, y1⟩ := wdV_bd x0 0 63 (by omega)
      obtain ⟨y2, y3⟩ := wdV_bd x1 0 63 (by omega)
      generalize wdV x0 0 63 = v0 at *
      generalize wdV x1 0 63 = v1 at *
      obtain ⟨q0, rfl⟩ := Int.eq_ofNat_of_zero_le y0
      obtain ⟨q1, rfl⟩ := Int.eq_ofNat_of_zero_le y2
      have HQ := Lib.hid (show q0 < 64 ∧ q1 < 64 by omega)
      have HWD0 := Lib.hid hwd0
      have HWD1 := Lib.hid hwd1
      clear hcc0 hcc1 hca0 hcb0 hca1 hcb1 hwd0 hwd1 hkl0 hkl1 u0 u1 u2 u3 y0 y1 y2 y3 hbg0 hbg1
      obtain ⟨W, rfl⟩ : ∃ W, W = wr := ⟨_, rfl⟩
      generalize hsb : W.heap.size = sb at *
      have HSB := Lib.hid hsb
      have hsg : g < sb := by rw [← hsb]; exact hD.out.p.z
      have hsr1 : r1 < sb := by rw [← hsb]; exact hD.out.a.zr
      have hsr2 : r2 < sb := by rw [← hsb]; exact hD.out.b.zr
      have HS := Lib.hid (And.intro hsg (And.intro hsr1 hsr2))
      clear hsg hsr1 hsr2
      go_loopw [70] (fun i wr => ∃ (j : Nat) (S : Po) (T1 T2 : Ta), j ≤ 2 ∧ i = .int .i64 j ∧ Hid (Trio w g g h1 r1 0 h2 r2 3 64 wr S T1 T2) ∧ Hid (wr.cell? ⟨sb, 0, none⟩ = some (.pointer (some ⟨h1, 0, none⟩)) ∧ wr.cell? ⟨sb, 1, none⟩ = some (.pointer (some ⟨h2, 0, none⟩)) ∧ sb < wr.heap.size)) (fun i _ => 2 - (intOf i).toNat)
      case atStart =>
        refine ⟨0, S, T1, T2, by omega, rfl, Lib.hid (hD.out.keep HG.out ((Below.refl _ _).alloc (Nat.le_refl _) _)), ?_⟩
        have hb := Blk.new W 24 #[.pointer (some ⟨h1, 0, none⟩), .pointer (some ⟨h2, 0, none⟩)]
        rw [hsb] at hb
        exact Lib.hid ⟨hb.cell 0, hb.cell 1, hb.lt⟩
      case round =>
        clear hD hsb
        obtain ⟨j, S, T1, T2, hj, rfl, hD2, hC⟩ := hrel
        by_cases hj2 : j < 2
        · have e1 := hC.out.1
          have e2 := hC.out.2.1
          have hck0 := (hD2.out.bl.cell (p := ⟨b0, off0 + k * 2, none⟩) HBG.out.1).trans HCA.out.1
          have hcp0 := (hD2.out.bl.cell (p := ⟨b0, off0 + k * 2 + 1, none⟩) HBG.out.1).trans HCA.out.2.1
          have hck1 := (hD2.out.bl.cell (p := ⟨b1, off1 + k * 2, none⟩) HBG.out.2).trans HCA.out.2.2.1
          have hcp1 := (hD2.out.bl.cell (p := ⟨b1, off1 + k * 2 + 1, none⟩) HBG.out.2).trans HCA.out.2.2.2
          rcases (show j = 0 ∨ j = 1 by omega) with hj0 | hj0
          · have e1j : wr.cell? ⟨sb, j, none⟩ = some (.pointer (some ⟨h1, 0, none⟩)) := by rw [hj0]; exact e1
            have hjb : ((j : Int) == 1) = false := by rw [hj0]; rfl
            have HJ := Lib.hid hj0
            clear hj0 hj e1 e2
            have HMP := Lib.hid (fun (V : World) (hb : Below wr.heap.size wr V) => (hD2.out.keep HG.out hb).map HG.out q0 HQ.out.1)
            have HUN := Lib.hid (fun (V : World) (hb : Below wr.heap.size wr V) => (hD2.out.keep HG.out hb).unmap HG.out q0 HQ.out.1)
            by_cases k2 : kd0 = 2
            · subst k2
              go_wp2_with (first
                | (go_at_call 16; refine (HWD0.out _).mono ?_; rintro e w' ⟨rfl, rfl⟩)
                | (go_at_call 11; refine (HUN.out _ ((Below.refl _ _).alloc (Nat.le_refl _) _)).mono ?_; rintro e w2 ⟨er, rfl, S3, T3, hd3, hu3⟩
                   have HD3 := Lib.hid hd3
                   have HU3 := Lib.hid hu3
                   clear hd3 hu3))
              go_roundw
              case rel =>
                have hb : Below wr.heap.size wr (wr.alloc (.cells #[.int .i64 2, .int .i64 x0] 42)) := (Below.refl _ _).alloc (Nat.le_refl _) _
                have hz : sb < (wr.alloc (.cells #[.int .i64 2, .int .i64 x0] 42)).heap.size := by have := hC.out.2.2; simp; omega
                refine ⟨j + 1, _, _, _, by omega, by go_num, Lib.hid HD3.out, Lib.hid ⟨?_, ?_, Nat.lt_of_lt_of_le hz HU3.out.size⟩⟩
                · exact ((HU3.out.cell (p := ⟨sb, 0, none⟩) hz (by have := HS.out.1; show sb ≠ g; omega) (by have := HS.out.2.1; show sb ≠ r1; omega)).trans (hb.cell (p := ⟨sb, 0, none⟩) hC.out.2.2)).trans hC.out.1
                · exact ((HU3.out.cell (p := ⟨sb, 1, none⟩) hz (by have := HS.out.1; show sb ≠ g; omega) (by have := HS.out.2.1; show sb ≠ r1; omega)).trans (hb.cell (p := ⟨sb, 1, none⟩) hC.out.2.2)).trans hC.out.2.1
              case measure => simp [intOf]; omega
            · have k2b : (kd0 == 2) = false := by simpa using k2
              go_wp2_with (first
                | (go_at_call 16; refine (HWD0.out _).mono ?_; rintro e w' ⟨rfl, rfl⟩)
                | (go_at_call 10; refine (HMP.out _ ((Below.refl _ _).alloc (Nat.le_refl _) _)).mono ?_; rintro e w2 ⟨fr, er, rfl, S3, T3, hd3, hu3⟩
                   have HD3 := Lib.hid hd3
                   have HU3 := Lib.hid hu3
                   clear hd3 hu3))
              go_roundw
              case rel =>
                have hb : Below wr.heap.size wr (wr.alloc (.cells #[.int .i64 kd0, .int .i64 x0] 42)) := (Below.refl _ _).alloc (Nat.le_refl _) _
                have hz : sb < (wr.alloc (.cells #[.int .i64 kd0, .int .i64 x0] 42)).heap.size := by have := hC.out.2.2; simp; omega
                refine ⟨j + 1, _, _, _, by omega, by go_num, Lib.hid HD3.out, Lib.hid ⟨?_, ?_, Nat.lt_of_lt_of_le hz HU3.out.size⟩⟩
                · exact ((HU3.out.cell (p := ⟨sb, 0, none⟩) hz (by have := HS.out.1; show sb ≠ g; omega) (by have := HS.out.2.1; show sb ≠ r1; omega)).trans (hb.cell (p := ⟨sb, 0, none⟩) hC.out.2.2)).trans hC.out.1
                · exact ((HU3.out.cell (p := ⟨sb, 1, none⟩) hz (by have := HS.out.1; show sb ≠ g; omega) (by have := HS.out.2.1; show sb ≠ r1; omega)).trans (hb.cell (p := ⟨sb, 1, none⟩) hC.out.2.2)).trans hC.out.2.1
              case measure => simp [intOf]; omega
          · have e1j : wr.cell? ⟨sb, j, none⟩ = some (.pointer (some ⟨h2, 0, none⟩)) := by rw [hj0]; exact e2
            have hjb : ((j : Int) == 1) = true := by rw [hj0]; rfl
            have HJ := Lib.hid hj0
            have hb1z : b1 < wr.heap.size := Nat.lt_of_lt_of_le HBG.out.2 (hD2.out.size HG.out)
            have hck1a := ((Below.refl wr.heap.size wr).alloc (Nat.le_refl _) (.cells #[.int .i64 kd0, .int .i64 x0] 42)).cell (p := ⟨b1, off1 + k * 2, none⟩) hb1z |>.trans hck1
            have hcp1a := ((Below.refl wr.heap.size wr).alloc (Nat.le_refl _) (.cells #[.int .i64 kd0, .int .i64 x0] 42)).cell (p := ⟨b1, off1 + k * 2 + 1, none⟩) hb1z |>.trans hcp1
            clear hj0 hj e1 e2
            have HMP := Lib.hid (fun (V : World) (hb : Below wr.heap.size wr V) => (hD2.out.keep HG.out hb).swap.map HG.out q1 HQ.out.2)
            have HUN := Lib.hid (fun (V : World) (hb : Below wr.heap.size wr V) => (hD2.out.keep HG.out hb).swap.unmap HG.out q1 HQ.out.2)
            by_cases k2 : kd1 = 2
            · subst k2
              go_wp2_with (first
                | (go_at_call 16; refine (HWD1.out _).mono ?_; rintro e w' ⟨rfl, rfl⟩)
                | (go_at_call 11; refine (HUN.out _ ((Below.refl _ _).alloc (Nat.le_refl _) _)).mono ?_; rintro e w2 ⟨er, rfl, S3, T3, hd3, hu3⟩
                   have HD3 := Lib.hid hd3
                   have HU3 := Lib.hid hu3
                   clear hd3 hu3))
              go_roundw
              case rel =>
                have hb : Below wr.heap.size wr (wr.alloc (.cells #[.int .i64 2, .int .i64 x1] 42)) := (Below.refl _ _).alloc (Nat.le_refl _) _
                have hz : sb < (wr.alloc (.cells #[.int .i64 2, .int .i64 x1] 42)).heap.size := by have := hC.out.2.2; simp; omega
                refine ⟨j + 1, _, _, _, by omega, by go_num, Lib.hid HD3.out.swap, Lib.hid ⟨?_, ?_, Nat.lt_of_lt_of_le hz HU3.out.size⟩⟩
                · exact ((HU3.out.cell (p := ⟨sb, 0, none⟩) hz (by have := HS.out.1; show sb ≠ g; omega) (by have := HS.out.2.2; show sb ≠ r2; omega)).trans (hb.cell (p := ⟨sb, 0, none⟩) hC.out.2.2)).trans hC.out.1
                · exact ((HU3.out.cell (p := ⟨sb, 1, none⟩) hz (by have := HS.out.1; show sb ≠ g; omega) (by have := HS.out.2.2; show sb ≠ r2; omega)).trans (hb.cell (p := ⟨sb, 1, none⟩) hC.out.2.2)).trans hC.out.2.1
              case measure => simp [intOf]; omega
            · have k2b : (kd1 == 2) = false := by simpa using k2
              go_wp2_with (first
                | (go_at_call 16; refine (HWD1.out _).mono ?_; rintro e w' ⟨rfl, rfl⟩)
                | (go_at_call 10; refine (HMP.out _ ((Below.refl _ _).alloc (Nat.le_refl _) _)).mono ?_; rintro e w2 ⟨fr, er, rfl, S3, T3, hd3, hu3⟩
                   have HD3 := Lib.hid hd3
                   have HU3 := Lib.hid hu3
                   clear hd3 hu3))
              go_roundw
              case rel =>
                have hb : Below wr.heap.size wr (wr.alloc (.cells #[.int .i64 kd1, .int .i64 x1] 42)) := (Below.refl _ _).alloc (Nat.le_refl _) _
                have hz : sb < (wr.alloc (.cells #[.int .i64 kd1, .int .i64 x1] 42)).heap.size := by have := hC.out.2.2; simp; omega
                refine ⟨j + 1, _, _, _, by omega, by go_num, Lib.hid HD3.out.swap, Lib.hid ⟨?_, ?_, Nat.lt_of_lt_of_le hz HU3.out.size⟩⟩
                · exact ((HU3.out.cell (p := ⟨sb, 0, none⟩) hz (by have := HS.out.1; show sb ≠ g; omega) (by have := HS.out.2.2; show sb ≠ r2; omega)).trans (hb.cell (p := ⟨sb, 0, none⟩) hC.out.2.2)).trans hC.out.1
                · exact ((HU3.out.cell (p := ⟨sb, 1, none⟩) hz (by have := HS.out.1; show sb ≠ g; omega) (by have := HS.out.2.2; show sb ≠ r2; omega)).trans (hb.cell (p := ⟨sb, 1, none⟩) hC.out.2.2)).trans hC.out.2.1
              case measure => simp [intOf]; omega
        · obtain rfl : j = 2 := by omega
          clear hj hj2
          have hd1 := hD2.out.p.z
          have hmA := mapped_any _ hD2.out.a
          unfold Mapd at hmA
          rw [hD2.out.na] at hmA
          have hle := mapL_le T1 64
          generalize hL : T1.mapL 64 = P1 at *
          generalize hN : P1.length = n1 at *
          have HL1 := Lib.hid (And.intro hL hN)
          have HMA := Lib.hid hmA
          have HC2 := hC
          clear hmA hL hN hd1
          go_wp2_with (go_at_call 13; refine HMA.out.mono ?_; rintro e w3 ⟨B1, c1, rfl, ho1, hb3⟩
                       have HD3 := Lib.hid (hD2.out.keep HG.out hb3)
                       have HO1 := Lib.hid ho1
                       clear hb3 ho1 HMA)
          clear hD2 hC HC2 HCA
          go_loopw [101] (fun i wr => ∃ j : Nat, j ≤ n1 ∧ i = .int .i64 j ∧ Hid (Below w3.heap.size w3 wr)) (fun i _ => n1 - (intOf i).toNat)
          case atStart => exact ⟨0, by omega, rfl, Lib.hid (Below.refl _ _)⟩
          case round =>
            obtain ⟨j, hj, rfl, hB3⟩ := hrel
            by_cases hjn : j < n1
            · have hjl : j < P1.length := by have := HL1.out.2; omega
              obtain ⟨bb1, bo1, rfl, hbz1, hbc1⟩ := nv_at HO1.out j hjl
              have hcl1 := (hB3.out.cell (p := ⟨bb1, bo1 + j, none⟩) hbz1).trans hbc1
              have HX := Lib.hid (mapL_at HL1.out.1 hjl)
              have hd4 := HD3.out.keep HG.out hB3.out
              have hmB := mapped_any _ hd4.b
              unfold Mapd at hmB
              rw [hd4.nb] at hmB
              have hle2b := mapL_le T2 64
              have hn1 := HL1.out.2
              generalize hL2 : T2.mapL 64 = P2 at *
              generalize hN2 : P2.length = n2 at *
              have HL2 := Lib.hid (And.intro hL2 hN2)
              have HMB := Lib.hid hmB
              have HD4 := Lib.hid hd4
              have hji : (j : Int) < (n1 : Int) := by omega
              generalize P1[j] = px at *
              obtain ⟨V, rfl⟩ : ∃ V, V = wr := ⟨_, rfl⟩
              have hx0 : px < 64 := HX.out.1
              clear hmB hL2 hN2 hd4 hbc1 hbz1 hjl hn1
              go_wp2_with (go_at_call 13; refine HMB.out.mono ?_; rintro e w4 ⟨B2, c2, rfl, ho2, hb4⟩
                           have HD5 := Lib.hid (HD4.out.keep HG.out hb4)
                           have HB4 := Lib.hid hb4
                           have HO2 := Lib.hid ho2
                           clear hb4 ho2 HMB)
              go_loopw [108] (fun i wr => ∃ j : Nat, j ≤ n2 ∧ i = .int .i64 j ∧ Hid (Below w4.heap.size w4 wr)) (fun i _ => n2 - (intOf i).toNat)
              case atStart => exact ⟨0, by omega, rfl, Lib.hid (Below.refl _ _)⟩
              case round =>
                clear hcl1
                obtain ⟨j2, hj2, rfl, hB5⟩ := hrel
                by_cases hjn2 : j2 < n2
                · have hjl2 : j2 < P2.length := by have := HL2.out.2; omega
                  obtain ⟨bb2, bo2, rfl, hbz2, hbc2⟩ := nv_at HO2.out j2 hjl2
                  have hcl2 := (hB5.out.cell (p := ⟨bb2, bo2 + j2, none⟩) hbz2).trans hbc2
                  have hy := mapL_at HL2.out.1 hjl2
                  have hji2 : (j2 : Int) < (n2 : Int) := by omega
                  generalize P2[j2] = py at *
                  have hd6 := HD5.out.keep HG.out hB5.out
                  have hf1 := frame_any (px : Int) _ hd6.a
                  have hf2 := frame_any (py : Int) _ hd6.b
                  have m1 : T1.mB (px : Int) = true := by rw [mB_nat (by rw [hd6.na]; exact HX.out.1)]; exact neB_of HX.out.2
                  have m2 : T2.mB (py : Int) = true := by rw [mB_nat (by rw [hd6.nb]; exact hy.1)]; exact neB_of hy.2
                  unfold Ta.frV at hf1 hf2
                  rw [m1] at hf1
                  rw [m2] at hf2
                  simp only [if_true, Int.toNat_natCast] at hf1 hf2
                  obtain ⟨a1, a2, a3⟩ := hd6.apart px py HX.out.1 hy.1 HX.out.2 hy.2
                  generalize T1.fr px = fx at *
                  generalize T2.fr py = fy at *
                  have HF1 := Lib.hid hf1
                  have HF2 := Lib.hid hf2
                  have n1b : (fx == fy) = false := by simpa using a1
                  have n2b : decide (fx < 16) = false := by simp; omega
                  have n3b : decide (fy < 16) = false := by simp; omega
                  clear hf1 hf2 m1 m2 hd6 hbc2 hbz2 hjl2 hy a1
                  go_wp2_with (first
                    | (go_at_call 23; refine HF1.out.mono ?_; rintro e w' ⟨rfl, rfl⟩; clear HF1)
                    | (go_at_call 23; refine HF2.out.mono ?_; rintro e w' ⟨rfl, rfl⟩; clear HF2))
                  go_roundw
                  case rel => exact ⟨j2 + 1, by omega, by go_num, hB5⟩
                  case measure => simp [intOf]; omega
                · have hex : n2 ≤ j2 := by omega
                  clear hjn2
                  go_wp2
                  go_roundw
                  case rel => exact ⟨j + 1, by omega, by go_num, Lib.hid (hB3.out.trans ((HB4.out.trans (hB5.out.mono HB4.out.size)).mono hB3.out.size))⟩
                  case measure => simp [intOf]; omega
            · have hex : n1 ≤ j := by omega
              clear hjn
              go_wp2
              go_roundw
              case rel => exact ⟨k + 1, _, _, _, by omega, by omega, by omega, by go_num, Lib.hid (HD3.out.keep HG.out hB3.out)⟩
              case measure => simp [intOf]; omega
    · rcases (show len0 ≤ k ∨ (k < len0 ∧ len1 ≤ k) ∨ (k < len0 ∧ k < len1 ∧ 50 ≤ k) by omega) with hex | ⟨hex, hex2⟩ | ⟨hex, hex2, hex3⟩
      all_goals
        clear hlt
        go_wp2_with (go_at_call 15; refine (known_any _).mono ?_; rintro e w4 ⟨rfl, hb4⟩; have HB4 := Lib.hid hb4; clear hb4)
        go_ret
        exact ⟨rfl, by rw [HG.out]; exact hD.out.bl.trans (HB4.out.mono (hD.out.size HG.out))⟩
end Go.Proofs.Ytomdimplakmpeaa

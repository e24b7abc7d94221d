/-
  innkeeperlaw3.HcodeNumbers returns true: its walk: each round of its loops asks what is true for any instruction and any bytes.
-/
import Derived.Test.YthobedekeebadaaDoorHs3
import Derived.Test.YthobedekeebadaaDoorHq
import Derived.Test.YthobedekeebadaaDoorHk
import Derived.Test.YthobedekeebadaaDoorHm
import Derived.RowKit3
import Derived.Deep.LoopGhost
import Derived.Outline
import Derived.Lib.Hide
namespace Go.Proofs.YthobedekeebadaaDoor
open Go.RowKit
set_option linter.unusedSimpArgs false
set_option linter.unusedVariables false

set_option maxRecDepth 100000 in
set_option maxHeartbeats 8000000 in
theorem hcodeNumbers_walk (w : World) (ht : Tab w.heap.size w) :
    Calls Tryd.prog 3 #[] w fun e w' => e = .returned (.bool true) ∧ Below w.heap.size w w' := by
  have HT := Lib.hid ht
  have hmk := fun W => run_make_row' (P := Tryd.prog) 28 5 (.int .u8 0) 1 Tryd.underlying28 Tryd.info_u8 rfl .i64 .i64 9 (by omega) (by omega) W
  simp only [Int.cast_ofNat_Int] at hmk
  have HMK := Lib.hid hmk
  clear ht hmk
  go_enter Tryd.func3, Tryd.ntmps3
  go_wp2_with fail
  go_loopw [1] (fun o wr => ∃ op : Int, -1 ≤ op ∧ op ≤ 24 ∧ o = .int .i64 op ∧ Hid (Below w.heap.size w wr)) (fun o _ => (24 - intOf o).toNat)
  case atStart => exact ⟨-1, by omega, by omega, rfl, Below.refl _ _⟩
  case round =>
    obtain ⟨op, ho1, ho2, rfl, hR0⟩ := hrel
    by_cases hlt : op < 24
    · have hm := made_any op 3 4 5 70000 (by omega) (by omega) (by omega) (by omega) (by omega) (by omega) (by omega) (by omega)
      have hmo := mdI_ok op 3 4 5 70000 (by omega) (by omega)
      generalize mdI op 3 4 5 70000 = mm at *
      obtain ⟨mo, md, ma, mb, mn⟩ := mm
      simp only [Hi.v] at hm
      have hmn0 : 0 ≤ mn := hmo.2.1
      have hmn1 : mn < 4294967296 := hmo.2.2
      have HM := Lib.hid hm
      clear hm hmo
      go_wp2_with fail
      go_loopw [2] (fun i wr => ∃ k : Nat, k ≤ 10 ∧ i = .int .i64 k ∧ Hid (Below w.heap.size w wr)) (fun i _ => 10 - (intOf i).toNat)
      case atStart => exact ⟨0, by omega, rfl, hR0⟩
      case round =>
        obtain ⟨k, hk, rfl, hR⟩ := hrel
        have hzr := hR.out.size
        by_cases hk10 : k < 10
        · have hkk : k = 0 ∨ k = 1 ∨ k = 2 ∨ k = 3 ∨ k = 4 ∨ k = 5 ∨ k = 6 ∨ k = 7 ∨ k = 8 ∨ k = 9 := by omega
          clear hR0
          rcases hkk with rfl | rfl | rfl | rfl | rfl | rfl | rfl | rfl | rfl | rfl
          · have hs := same_any (op) (0) (0) (0) (0) (by omega) (by omega)
            have he := rencode_any (op) (0) (0) (0) (0) (by omega) (by omega)
            have HS := Lib.hid hs
            have HE := Lib.hid he
            clear hs he
            go_wp2_with fail
            have k0 := Box5.new wr (.int .i64 (op)) (.int .i64 (0)) (.int .i64 (0)) (.int .i64 (0)) (.int .u32 (0)) 24
            have kz : wr.heap.size < (wr.alloc (.cells #[.int .i64 op, .int .i64 0, .int .i64 0, .int .i64 0, .int .u32 0] 24)).heap.size := by simp
            have kB := hR.out.alloc hzr (.cells #[.int .i64 op, .int .i64 0, .int .i64 0, .int .i64 0, .int .u32 0] 24)
            generalize wr.alloc (.cells #[.int .i64 op, .int .i64 0, .int .i64 0, .int .i64 0, .int .u32 0] 24) = W0 at *
            generalize wr.heap.size = G at *
            have KB := Lib.hid kB
            clear kB hR
            refine (HS.out _ ((HT.out.on KB.out).up (by omega))).mono ?_
            rintro e w1 ⟨rfl, hb1⟩
            have k1 := k0.keep hb1 kz
            have z1 : G < w1.heap.size := Nat.lt_of_lt_of_le kz hb1.size
            have B1 := Lib.hid (KB.out.trans (hb1.mono (by omega)))
            obtain ⟨c0, c1, c2, c3, c4⟩ := k1
            clear hb1 KB k0 kz
            go_wp2_with fail
            refine (HE.out _).mono ?_
            rintro e w2 ⟨rfl, ho2, hb2⟩
            have k2 := Box5.keep ⟨c0, c1, c2, c3, c4⟩ hb2 z1
            have z2 : G < w2.heap.size := Nat.lt_of_lt_of_le z1 hb2.size
            have B2 := Lib.hid (B1.out.trans (hb2.mono (by omega)))
            have R2 := Lib.hid (reads_any (some ⟨w1.heap.size + 1, 0, none⟩) 8 (rfV (op) (0) (0) (0) (0)) w2 (Rd.of_own ho2))
            clear hb2 ho2 c0 c1 c2 c3 c4 B1 HS
            go_wp2_with fail
            refine R2.out.mono ?_
            rintro e w3 ⟨rfl, hb3⟩
            obtain ⟨c0, c1, c2, c3, c4⟩ := k2.keep hb3 z2
            have z3 : G < w3.heap.size := Nat.lt_of_lt_of_le z2 hb3.size
            have B3 := Lib.hid (B2.out.trans (hb3.mono (by omega)))
            clear hb3 k2 R2 B2
            go_wp2_with fail
            refine (HE.out _).mono ?_
            rintro e w4 ⟨rfl, ho4, hb4⟩
            have B4 := Lib.hid (B3.out.trans (hb4.mono (by omega)))
            have R4 := reads_any (some ⟨w3.heap.size + 1, 0, none⟩) 8 ((rfV (op) (0) (0) (0) (0)).take 7) w4 (by have h := (Rd.of_own ho4).take 7; simpa [bv, List.map_take] using h)
            rw [show ((rfV (op) (0) (0) (0) (0)).take 7).length = 7 from rfl] at R4
            have R4 := Lib.hid R4
            have z4 : G < w4.heap.size := Nat.lt_of_lt_of_le z3 hb4.size
            clear hb4 ho4 B3 c0 c1 c2 c3 c4 HE
            go_wp2_with fail
            refine R4.out.mono ?_
            rintro e w5 ⟨rfl, hb5⟩
            have B5 := Lib.hid (B4.out.trans (hb5.mono (by omega)))
            clear hb5 R4 B4
            go_wp2_with fail
            go_roundw
            case rel => exact ⟨1, by omega, rfl, B5⟩
            case measure => simp [intOf]
          · have hs := same_any (op) (15) (0) (0) (0) (by omega) (by omega)
            have he := rencode_any (op) (15) (0) (0) (0) (by omega) (by omega)
            have HS := Lib.hid hs
            have HE := Lib.hid he
            clear hs he
            go_wp2_with fail
            have k0 := Box5.new wr (.int .i64 (op)) (.int .i64 (15)) (.int .i64 (0)) (.int .i64 (0)) (.int .u32 (0)) 24
            have kz : wr.heap.size < (wr.alloc (.cells #[.int .i64 op, .int .i64 15, .int .i64 0, .int .i64 0, .int .u32 0] 24)).heap.size := by simp
            have kB := hR.out.alloc hzr (.cells #[.int .i64 op, .int .i64 15, .int .i64 0, .int .i64 0, .int .u32 0] 24)
            generalize wr.alloc (.cells #[.int .i64 op, .int .i64 15, .int .i64 0, .int .i64 0, .int .u32 0] 24) = W0 at *
            generalize wr.heap.size = G at *
            have KB := Lib.hid kB
            clear kB hR
            refine (HS.out _ ((HT.out.on KB.out).up (by omega))).mono ?_
            rintro e w1 ⟨rfl, hb1⟩
            have k1 := k0.keep hb1 kz
            have z1 : G < w1.heap.size := Nat.lt_of_lt_of_le kz hb1.size
            have B1 := Lib.hid (KB.out.trans (hb1.mono (by omega)))
            obtain ⟨c0, c1, c2, c3, c4⟩ := k1
            clear hb1 KB k0 kz
            go_wp2_with fail
            refine (HE.out _).mono ?_
            rintro e w2 ⟨rfl, ho2, hb2⟩
            have k2 := Box5.keep ⟨c0, c1, c2, c3, c4⟩ hb2 z1
            have z2 : G < w2.heap.size := Nat.lt_of_lt_of_le z1 hb2.size
            have B2 := Lib.hid (B1.out.trans (hb2.mono (by omega)))
            have R2 := Lib.hid (reads_any (some ⟨w1.heap.size + 1, 0, none⟩) 8 (rfV (op) (15) (0) (0) (0)) w2 (Rd.of_own ho2))
            clear hb2 ho2 c0 c1 c2 c3 c4 B1 HS
            go_wp2_with fail
            refine R2.out.mono ?_
            rintro e w3 ⟨rfl, hb3⟩
            obtain ⟨c0, c1, c2, c3, c4⟩ := k2.keep hb3 z2
            have z3 : G < w3.heap.size := Nat.lt_of_lt_of_le z2 hb3.size
            have B3 := Lib.hid (B2.out.trans (hb3.mono (by omega)))
            clear hb3 k2 R2 B2
            go_wp2_with fail
            refine (HE.out _).mono ?_
            rintro e w4 ⟨rfl, ho4, hb4⟩
            have B4 := Lib.hid (B3.out.trans (hb4.mono (by omega)))
            have R4 := reads_any (some ⟨w3.heap.size + 1, 0, none⟩) 8 ((rfV (op) (15) (0) (0) (0)).take 7) w4 (by have h := (Rd.of_own ho4).take 7; simpa [bv, List.map_take] using h)
            rw [show ((rfV (op) (15) (0) (0) (0)).take 7).length = 7 from rfl] at R4
            have R4 := Lib.hid R4
            have z4 : G < w4.heap.size := Nat.lt_of_lt_of_le z3 hb4.size
            clear hb4 ho4 B3 c0 c1 c2 c3 c4 HE
            go_wp2_with fail
            refine R4.out.mono ?_
            rintro e w5 ⟨rfl, hb5⟩
            have B5 := Lib.hid (B4.out.trans (hb5.mono (by omega)))
            clear hb5 R4 B4
            go_wp2_with fail
            go_roundw
            case rel => exact ⟨2, by omega, rfl, B5⟩
            case measure => simp [intOf]
          · have hs := same_any (op) (0) (15) (0) (0) (by omega) (by omega)
            have he := rencode_any (op) (0) (15) (0) (0) (by omega) (by omega)
            have HS := Lib.hid hs
            have HE := Lib.hid he
            clear hs he
            go_wp2_with fail
            have k0 := Box5.new wr (.int .i64 (op)) (.int .i64 (0)) (.int .i64 (15)) (.int .i64 (0)) (.int .u32 (0)) 24
            have kz : wr.heap.size < (wr.alloc (.cells #[.int .i64 op, .int .i64 0, .int .i64 15, .int .i64 0, .int .u32 0] 24)).heap.size := by simp
            have kB := hR.out.alloc hzr (.cells #[.int .i64 op, .int .i64 0, .int .i64 15, .int .i64 0, .int .u32 0] 24)
            generalize wr.alloc (.cells #[.int .i64 op, .int .i64 0, .int .i64 15, .int .i64 0, .int .u32 0] 24) = W0 at *
            generalize wr.heap.size = G at *
            have KB := Lib.hid kB
            clear kB hR
            refine (HS.out _ ((HT.out.on KB.out).up (by omega))).mono ?_
            rintro e w1 ⟨rfl, hb1⟩
            have k1 := k0.keep hb1 kz
            have z1 : G < w1.heap.size := Nat.lt_of_lt_of_le kz hb1.size
            have B1 := Lib.hid (KB.out.trans (hb1.mono (by omega)))
            obtain ⟨c0, c1, c2, c3, c4⟩ := k1
            clear hb1 KB k0 kz
            go_wp2_with fail
            refine (HE.out _).mono ?_
            rintro e w2 ⟨rfl, ho2, hb2⟩
            have k2 := Box5.keep ⟨c0, c1, c2, c3, c4⟩ hb2 z1
            have z2 : G < w2.heap.size := Nat.lt_of_lt_of_le z1 hb2.size
            have B2 := Lib.hid (B1.out.trans (hb2.mono (by omega)))
            have R2 := Lib.hid (reads_any (some ⟨w1.heap.size + 1, 0, none⟩) 8 (rfV (op) (0) (15) (0) (0)) w2 (Rd.of_own ho2))
            clear hb2 ho2 c0 c1 c2 c3 c4 B1 HS
            go_wp2_with fail
            refine R2.out.mono ?_
            rintro e w3 ⟨rfl, hb3⟩
            obtain ⟨c0, c1, c2, c3, c4⟩ := k2.keep hb3 z2
            have z3 : G < w3.heap.size := Nat.lt_of_lt_of_le z2 hb3.size
            have B3 := Lib.hid (B2.out.trans (hb3.mono (by omega)))
            clear hb3 k2 R2 B2
            go_wp2_with fail
            refine (HE.out _).mono ?_
            rintro e w4 ⟨rfl, ho4, hb4⟩
            have B4 := Lib.hid (B3.out.trans (hb4.mono (by omega)))
            have R4 := reads_any (some ⟨w3.heap.size + 1, 0, none⟩) 8 ((rfV (op) (0) (15) (0) (0)).take 7) w4 (by have h := (Rd.of_own ho4).take 7; simpa [bv, List.map_take] using h)
            rw [show ((rfV (op) (0) (15) (0) (0)).take 7).length = 7 from rfl] at R4
            have R4 := Lib.hid R4
            have z4 : G < w4.heap.size := Nat.lt_of_lt_of_le z3 hb4.size
            clear hb4 ho4 B3 c0 c1 c2 c3 c4 HE
            go_wp2_with fail
            refine R4.out.mono ?_
            rintro e w5 ⟨rfl, hb5⟩
            have B5 := Lib.hid (B4.out.trans (hb5.mono (by omega)))
            clear hb5 R4 B4
            go_wp2_with fail
            go_roundw
            case rel => exact ⟨3, by omega, rfl, B5⟩
            case measure => simp [intOf]
          · have hs := same_any (op) (0) (0) (15) (0) (by omega) (by omega)
            have he := rencode_any (op) (0) (0) (15) (0) (by omega) (by omega)
            have HS := Lib.hid hs
            have HE := Lib.hid he
            clear hs he
            go_wp2_with fail
            have k0 := Box5.new wr (.int .i64 (op)) (.int .i64 (0)) (.int .i64 (0)) (.int .i64 (15)) (.int .u32 (0)) 24
            have kz : wr.heap.size < (wr.alloc (.cells #[.int .i64 op, .int .i64 0, .int .i64 0, .int .i64 15, .int .u32 0] 24)).heap.size := by simp
            have kB := hR.out.alloc hzr (.cells #[.int .i64 op, .int .i64 0, .int .i64 0, .int .i64 15, .int .u32 0] 24)
            generalize wr.alloc (.cells #[.int .i64 op, .int .i64 0, .int .i64 0, .int .i64 15, .int .u32 0] 24) = W0 at *
            generalize wr.heap.size = G at *
            have KB := Lib.hid kB
            clear kB hR
            refine (HS.out _ ((HT.out.on KB.out).up (by omega))).mono ?_
            rintro e w1 ⟨rfl, hb1⟩
            have k1 := k0.keep hb1 kz
            have z1 : G < w1.heap.size := Nat.lt_of_lt_of_le kz hb1.size
            have B1 := Lib.hid (KB.out.trans (hb1.mono (by omega)))
            obtain ⟨c0, c1, c2, c3, c4⟩ := k1
            clear hb1 KB k0 kz
            go_wp2_with fail
            refine (HE.out _).mono ?_
            rintro e w2 ⟨rfl, ho2, hb2⟩
            have k2 := Box5.keep ⟨c0, c1, c2, c3, c4⟩ hb2 z1
            have z2 : G < w2.heap.size := Nat.lt_of_lt_of_le z1 hb2.size
            have B2 := Lib.hid (B1.out.trans (hb2.mono (by omega)))
            have R2 := Lib.hid (reads_any (some ⟨w1.heap.size + 1, 0, none⟩) 8 (rfV (op) (0) (0) (15) (0)) w2 (Rd.of_own ho2))
            clear hb2 ho2 c0 c1 c2 c3 c4 B1 HS
            go_wp2_with fail
            refine R2.out.mono ?_
            rintro e w3 ⟨rfl, hb3⟩
            obtain ⟨c0, c1, c2, c3, c4⟩ := k2.keep hb3 z2
            have z3 : G < w3.heap.size := Nat.lt_of_lt_of_le z2 hb3.size
            have B3 := Lib.hid (B2.out.trans (hb3.mono (by omega)))
            clear hb3 k2 R2 B2
            go_wp2_with fail
            refine (HE.out _).mono ?_
            rintro e w4 ⟨rfl, ho4, hb4⟩
            have B4 := Lib.hid (B3.out.trans (hb4.mono (by omega)))
            have R4 := reads_any (some ⟨w3.heap.size + 1, 0, none⟩) 8 ((rfV (op) (0) (0) (15) (0)).take 7) w4 (by have h := (Rd.of_own ho4).take 7; simpa [bv, List.map_take] using h)
            rw [show ((rfV (op) (0) (0) (15) (0)).take 7).length = 7 from rfl] at R4
            have R4 := Lib.hid R4
            have z4 : G < w4.heap.size := Nat.lt_of_lt_of_le z3 hb4.size
            clear hb4 ho4 B3 c0 c1 c2 c3 c4 HE
            go_wp2_with fail
            refine R4.out.mono ?_
            rintro e w5 ⟨rfl, hb5⟩
            have B5 := Lib.hid (B4.out.trans (hb5.mono (by omega)))
            clear hb5 R4 B4
            go_wp2_with fail
            go_roundw
            case rel => exact ⟨4, by omega, rfl, B5⟩
            case measure => simp [intOf]
          · have hs := same_any (op) (0) (0) (0) (4294967295) (by omega) (by omega)
            have he := rencode_any (op) (0) (0) (0) (4294967295) (by omega) (by omega)
            have HS := Lib.hid hs
            have HE := Lib.hid he
            clear hs he
            go_wp2_with fail
            have k0 := Box5.new wr (.int .i64 (op)) (.int .i64 (0)) (.int .i64 (0)) (.int .i64 (0)) (.int .u32 (4294967295)) 24
            have kz : wr.heap.size < (wr.alloc (.cells #[.int .i64 op, .int .i64 0, .int .i64 0, .int .i64 0, .int .u32 4294967295] 24)).heap.size := by simp
            have kB := hR.out.alloc hzr (.cells #[.int .i64 op, .int .i64 0, .int .i64 0, .int .i64 0, .int .u32 4294967295] 24)
            generalize wr.alloc (.cells #[.int .i64 op, .int .i64 0, .int .i64 0, .int .i64 0, .int .u32 4294967295] 24) = W0 at *
            generalize wr.heap.size = G at *
            have KB := Lib.hid kB
            clear kB hR
            refine (HS.out _ ((HT.out.on KB.out).up (by omega))).mono ?_
            rintro e w1 ⟨rfl, hb1⟩
            have k1 := k0.keep hb1 kz
            have z1 : G < w1.heap.size := Nat.lt_of_lt_of_le kz hb1.size
            have B1 := Lib.hid (KB.out.trans (hb1.mono (by omega)))
            obtain ⟨c0, c1, c2, c3, c4⟩ := k1
            clear hb1 KB k0 kz
            go_wp2_with fail
            refine (HE.out _).mono ?_
            rintro e w2 ⟨rfl, ho2, hb2⟩
            have k2 := Box5.keep ⟨c0, c1, c2, c3, c4⟩ hb2 z1
            have z2 : G < w2.heap.size := Nat.lt_of_lt_of_le z1 hb2.size
            have B2 := Lib.hid (B1.out.trans (hb2.mono (by omega)))
            have R2 := Lib.hid (reads_any (some ⟨w1.heap.size + 1, 0, none⟩) 8 (rfV (op) (0) (0) (0) (4294967295)) w2 (Rd.of_own ho2))
            clear hb2 ho2 c0 c1 c2 c3 c4 B1 HS
            go_wp2_with fail
            refine R2.out.mono ?_
            rintro e w3 ⟨rfl, hb3⟩
            obtain ⟨c0, c1, c2, c3, c4⟩ := k2.keep hb3 z2
            have z3 : G < w3.heap.size := Nat.lt_of_lt_of_le z2 hb3.size
            have B3 := Lib.hid (B2.out.trans (hb3.mono (by omega)))
            clear hb3 k2 R2 B2
            go_wp2_with fail
            refine (HE.out _).mono ?_
            rintro e w4 ⟨rfl, ho4, hb4⟩
            have B4 := Lib.hid (B3.out.trans (hb4.mono (by omega)))
            have R4 := reads_any (some ⟨w3.heap.size + 1, 0, none⟩) 8 ((rfV (op) (0) (0) (0) (4294967295)).take 7) w4 (by have h := (Rd.of_own ho4).take 7; simpa [bv, List.map_take] using h)
            rw [show ((rfV (op) (0) (0) (0) (4294967295)).take 7).length = 7 from rfl] at R4
            have R4 := Lib.hid R4
            have z4 : G < w4.heap.size := Nat.lt_of_lt_of_le z3 hb4.size
            clear hb4 ho4 B3 c0 c1 c2 c3 c4 HE
            go_wp2_with fail
            refine R4.out.mono ?_
            rintro e w5 ⟨rfl, hb5⟩
            have B5 := Lib.hid (B4.out.trans (hb5.mono (by omega)))
            clear hb5 R4 B4
            go_wp2_with fail
            go_roundw
            case rel => exact ⟨5, by omega, rfl, B5⟩
            case measure => simp [intOf]
          · have hs := same_any (op) (16) (0) (0) (0) (by omega) (by omega)
            have he := rencode_any (op) (16) (0) (0) (0) (by omega) (by omega)
            have HS := Lib.hid hs
            have HE := Lib.hid he
            clear hs he
            go_wp2_with fail
            have k0 := Box5.new wr (.int .i64 (op)) (.int .i64 (16)) (.int .i64 (0)) (.int .i64 (0)) (.int .u32 (0)) 24
            have kz : wr.heap.size < (wr.alloc (.cells #[.int .i64 op, .int .i64 16, .int .i64 0, .int .i64 0, .int .u32 0] 24)).heap.size := by simp
            have kB := hR.out.alloc hzr (.cells #[.int .i64 op, .int .i64 16, .int .i64 0, .int .i64 0, .int .u32 0] 24)
            generalize wr.alloc (.cells #[.int .i64 op, .int .i64 16, .int .i64 0, .int .i64 0, .int .u32 0] 24) = W0 at *
            generalize wr.heap.size = G at *
            have KB := Lib.hid kB
            clear kB hR
            refine (HS.out _ ((HT.out.on KB.out).up (by omega))).mono ?_
            rintro e w1 ⟨rfl, hb1⟩
            have k1 := k0.keep hb1 kz
            have z1 : G < w1.heap.size := Nat.lt_of_lt_of_le kz hb1.size
            have B1 := Lib.hid (KB.out.trans (hb1.mono (by omega)))
            obtain ⟨c0, c1, c2, c3, c4⟩ := k1
            clear hb1 KB k0 kz
            go_wp2_with fail
            refine (HE.out _).mono ?_
            rintro e w2 ⟨rfl, ho2, hb2⟩
            have k2 := Box5.keep ⟨c0, c1, c2, c3, c4⟩ hb2 z1
            have z2 : G < w2.heap.size := Nat.lt_of_lt_of_le z1 hb2.size
            have B2 := Lib.hid (B1.out.trans (hb2.mono (by omega)))
            have R2 := Lib.hid (reads_any (some ⟨w1.heap.size + 1, 0, none⟩) 8 (rfV (op) (16) (0) (0) (0)) w2 (Rd.of_own ho2))
            clear hb2 ho2 c0 c1 c2 c3 c4 B1 HS
            go_wp2_with fail
            refine R2.out.mono ?_
            rintro e w3 ⟨rfl, hb3⟩
            obtain ⟨c0, c1, c2, c3, c4⟩ := k2.keep hb3 z2
            have z3 : G < w3.heap.size := Nat.lt_of_lt_of_le z2 hb3.size
            have B3 := Lib.hid (B2.out.trans (hb3.mono (by omega)))
            clear hb3 k2 R2 B2
            go_wp2_with fail
            refine (HE.out _).mono ?_
            rintro e w4 ⟨rfl, ho4, hb4⟩
            have B4 := Lib.hid (B3.out.trans (hb4.mono (by omega)))
            have R4 := reads_any (some ⟨w3.heap.size + 1, 0, none⟩) 8 ((rfV (op) (16) (0) (0) (0)).take 7) w4 (by have h := (Rd.of_own ho4).take 7; simpa [bv, List.map_take] using h)
            rw [show ((rfV (op) (16) (0) (0) (0)).take 7).length = 7 from rfl] at R4
            have R4 := Lib.hid R4
            have z4 : G < w4.heap.size := Nat.lt_of_lt_of_le z3 hb4.size
            clear hb4 ho4 B3 c0 c1 c2 c3 c4 HE
            go_wp2_with fail
            refine R4.out.mono ?_
            rintro e w5 ⟨rfl, hb5⟩
            have B5 := Lib.hid (B4.out.trans (hb5.mono (by omega)))
            clear hb5 R4 B4
            go_wp2_with fail
            go_roundw
            case rel => exact ⟨6, by omega, rfl, B5⟩
            case measure => simp [intOf]
          · have hs := same_any (op) (0) ((-1)) (0) (0) (by omega) (by omega)
            have he := rencode_any (op) (0) ((-1)) (0) (0) (by omega) (by omega)
            have HS := Lib.hid hs
            have HE := Lib.hid he
            clear hs he
            go_wp2_with fail
            have k0 := Box5.new wr (.int .i64 (op)) (.int .i64 (0)) (.int .i64 ((-1))) (.int .i64 (0)) (.int .u32 (0)) 24
            have kz : wr.heap.size < (wr.alloc (.cells #[.int .i64 op, .int .i64 0, .int .i64 (-1), .int .i64 0, .int .u32 0] 24)).heap.size := by simp
            have kB := hR.out.alloc hzr (.cells #[.int .i64 op, .int .i64 0, .int .i64 (-1), .int .i64 0, .int .u32 0] 24)
            generalize wr.alloc (.cells #[.int .i64 op, .int .i64 0, .int .i64 (-1), .int .i64 0, .int .u32 0] 24) = W0 at *
            generalize wr.heap.size = G at *
            have KB := Lib.hid kB
            clear kB hR
            refine (HS.out _ ((HT.out.on KB.out).up (by omega))).mono ?_
            rintro e w1 ⟨rfl, hb1⟩
            have k1 := k0.keep hb1 kz
            have z1 : G < w1.heap.size := Nat.lt_of_lt_of_le kz hb1.size
            have B1 := Lib.hid (KB.out.trans (hb1.mono (by omega)))
            obtain ⟨c0, c1, c2, c3, c4⟩ := k1
            clear hb1 KB k0 kz
            go_wp2_with fail
            refine (HE.out _).mono ?_
            rintro e w2 ⟨rfl, ho2, hb2⟩
            have k2 := Box5.keep ⟨c0, c1, c2, c3, c4⟩ hb2 z1
            have z2 : G < w2.heap.size := Nat.lt_of_lt_of_le z1 hb2.size
            have B2 := Lib.hid (B1.out.trans (hb2.mono (by omega)))
            have R2 := Lib.hid (reads_any (some ⟨w1.heap.size + 1, 0, none⟩) 8 (rfV (op) (0) ((-1)) (0) (0)) w2 (Rd.of_own ho2))
            clear hb2 ho2 c0 c1 c2 c3 c4 B1 HS
            go_wp2_with fail
            refine R2.out.mono ?_
            rintro e w3 ⟨rfl, hb3⟩
            obtain ⟨c0, c1, c2, c3, c4⟩ := k2.keep hb3 z2
            have z3 : G < w3.heap.size := Nat.lt_of_lt_of_le z2 hb3.size
            have B3 := Lib.hid (B2.out.trans (hb3.mono (by omega)))
            clear hb3 k2 R2 B2
            go_wp2_with fail
            refine (HE.out _).mono ?_
            rintro e w4 ⟨rfl, ho4, hb4⟩
            have B4 := Lib.hid (B3.out.trans (hb4.mono (by omega)))
            have R4 := reads_any (some ⟨w3.heap.size + 1, 0, none⟩) 8 ((rfV (op) (0) ((-1)) (0) (0)).take 7) w4 (by have h := (Rd.of_own ho4).take 7; simpa [bv, List.map_take] using h)
            rw [show ((rfV (op) (0) ((-1)) (0) (0)).take 7).length = 7 from rfl] at R4
            have R4 := Lib.hid R4
            have z4 : G < w4.heap.size := Nat.lt_of_lt_of_le z3 hb4.size
            clear hb4 ho4 B3 c0 c1 c2 c3 c4 HE
            go_wp2_with fail
            refine R4.out.mono ?_
            rintro e w5 ⟨rfl, hb5⟩
            have B5 := Lib.hid (B4.out.trans (hb5.mono (by omega)))
            clear hb5 R4 B4
            go_wp2_with fail
            go_roundw
            case rel => exact ⟨7, by omega, rfl, B5⟩
            case measure => simp [intOf]
          · have hs := same_any (op) (0) (0) (16) (0) (by omega) (by omega)
            have he := rencode_any (op) (0) (0) (16) (0) (by omega) (by omega)
            have HS := Lib.hid hs
            have HE := Lib.hid he
            clear hs he
            go_wp2_with fail
            have k0 := Box5.new wr (.int .i64 (op)) (.int .i64 (0)) (.int .i64 (0)) (.int .i64 (16)) (.int .u32 (0)) 24
            have kz : wr.heap.size < (wr.alloc (.cells #[.int .i64 op, .int .i64 0, .int .i64 0, .int .i64 16, .int .u32 0] 24)).heap.size := by simp
            have kB := hR.out.alloc hzr (.cells #[.int .i64 op, .int .i64 0, .int .i64 0, .int .i64 16, .int .u32 0] 24)
            generalize wr.alloc (.cells #[.int .i64 op, .int .i64 0, .int .i64 0, .int .i64 16, .int .u32 0] 24) = W0 at *
            generalize wr.heap.size = G at *
            have KB := Lib.hid kB
            clear kB hR
            refine (HS.out _ ((HT.out.on KB.out).up (by omega))).mono ?_
            rintro e w1 ⟨rfl, hb1⟩
            have k1 := k0.keep hb1 kz
            have z1 : G < w1.heap.size := Nat.lt_of_lt_of_le kz hb1.size
            have B1 := Lib.hid (KB.out.trans (hb1.mono (by omega)))
            obtain ⟨c0, c1, c2, c3, c4⟩ := k1
            clear hb1 KB k0 kz
            go_wp2_with fail
            refine (HE.out _).mono ?_
            rintro e w2 ⟨rfl, ho2, hb2⟩
            have k2 := Box5.keep ⟨c0, c1, c2, c3, c4⟩ hb2 z1
            have z2 : G < w2.heap.size := Nat.lt_of_lt_of_le z1 hb2.size
            have B2 := Lib.hid (B1.out.trans (hb2.mono (by omega)))
            have R2 := Lib.hid (reads_any (some ⟨w1.heap.size + 1, 0, none⟩) 8 (rfV (op) (0) (0) (16) (0)) w2 (Rd.of_own ho2))
            clear hb2 ho2 c0 c1 c2 c3 c4 B1 HS
            go_wp2_with fail
            refine R2.out.mono ?_
            rintro e w3 ⟨rfl, hb3⟩
            obtain ⟨c0, c1, c2, c3, c4⟩ := k2.keep hb3 z2
            have z3 : G < w3.heap.size := Nat.lt_of_lt_of_le z2 hb3.size
            have B3 := Lib.hid (B2.out.trans (hb3.mono (by omega)))
            clear hb3 k2 R2 B2
            go_wp2_with fail
            refine (HE.out _).mono ?_
            rintro e w4 ⟨rfl, ho4, hb4⟩
            have B4 := Lib.hid (B3.out.trans (hb4.mono (by omega)))
            have R4 := reads_any (some ⟨w3.heap.size + 1, 0, none⟩) 8 ((rfV (op) (0) (0) (16) (0)).take 7) w4 (by have h := (Rd.of_own ho4).take 7; simpa [bv, List.map_take] using h)
            rw [show ((rfV (op) (0) (0) (16) (0)).take 7).length = 7 from rfl] at R4
            have R4 := Lib.hid R4
            have z4 : G < w4.heap.size := Nat.lt_of_lt_of_le z3 hb4.size
            clear hb4 ho4 B3 c0 c1 c2 c3 c4 HE
            go_wp2_with fail
            refine R4.out.mono ?_
            rintro e w5 ⟨rfl, hb5⟩
            have B5 := Lib.hid (B4.out.trans (hb5.mono (by omega)))
            clear hb5 R4 B4
            go_wp2_with fail
            go_roundw
            case rel => exact ⟨8, by omega, rfl, B5⟩
            case measure => simp [intOf]
          · have hs := same_any (mo) (md) (ma) (mb) (mn) (by omega) (by omega)
            have he := rencode_any (mo) (md) (ma) (mb) (mn) (by omega) (by omega)
            have HS := Lib.hid hs
            have HE := Lib.hid he
            clear hs he
            go_wp2_with fail
            refine (HM.out _).mono ?_
            rintro e wm ⟨rfl, hbm⟩
            have km := (Blk.new wr 24 #[.int .i64 op, .int .i64 0, .int .i64 0, .int .i64 0, .int .u32 0]).below hbm (by simp)
            have m0 := km.cell 0
            have m1 := km.cell 1
            have m2 := km.cell 2
            have m3 := km.cell 3
            have m4 := km.cell 4
            have x0 := km.frozen 0
            have x1 := km.frozen 1
            have x2 := km.frozen 2
            have x3 := km.frozen 3
            have x4 := km.frozen 4
            simp at m0 m1 m2 m3 m4
            have BM := Lib.hid ((hR.out.alloc hzr _).trans (hbm.mono (by simp; omega)))
            have KM := Lib.hid (((((km.put 0 (.int .i64 mo)).put 1 (.int .i64 md)).put 2 (.int .i64 ma)).put 3 (.int .i64 mb)).put 4 (.int .u32 mn))
            clear km hbm
            go_wp2_with fail
            have k5 := KM.out
            have kB := ((((BM.out.setCell hzr (p := ⟨wr.heap.size, 0, none⟩) (.int .i64 mo)).setCell hzr (p := ⟨wr.heap.size, 1, none⟩) (.int .i64 md)).setCell hzr (p := ⟨wr.heap.size, 2, none⟩) (.int .i64 ma)).setCell hzr (p := ⟨wr.heap.size, 3, none⟩) (.int .i64 mb)).setCell hzr (p := ⟨wr.heap.size, 4, none⟩) (.int .u32 mn)
            have kz := k5.lt
            have k0 : Box5 wr.heap.size (.int .i64 mo) (.int .i64 md) (.int .i64 ma) (.int .i64 mb) (.int .u32 mn) (((((wm.setCell ⟨wr.heap.size, 0, none⟩ (.int .i64 mo)).setCell ⟨wr.heap.size, 1, none⟩ (.int .i64 md)).setCell ⟨wr.heap.size, 2, none⟩ (.int .i64 ma)).setCell ⟨wr.heap.size, 3, none⟩ (.int .i64 mb)).setCell ⟨wr.heap.size, 4, none⟩ (.int .u32 mn)) := ⟨k5.cell 0, k5.cell 1, k5.cell 2, k5.cell 3, k5.cell 4⟩
            clear k5 KM BM m0 m1 m2 m3 m4 x0 x1 x2 x3 x4
            generalize (((((wm.setCell ⟨wr.heap.size, 0, none⟩ (.int .i64 mo)).setCell ⟨wr.heap.size, 1, none⟩ (.int .i64 md)).setCell ⟨wr.heap.size, 2, none⟩ (.int .i64 ma)).setCell ⟨wr.heap.size, 3, none⟩ (.int .i64 mb)).setCell ⟨wr.heap.size, 4, none⟩ (.int .u32 mn)) = W0 at *
            generalize wr.heap.size = G at *
            have KB := Lib.hid kB
            clear kB hR
            refine (HS.out _ ((HT.out.on KB.out).up (by omega))).mono ?_
            rintro e w1 ⟨rfl, hb1⟩
            have k1 := k0.keep hb1 kz
            have z1 : G < w1.heap.size := Nat.lt_of_lt_of_le kz hb1.size
            have B1 := Lib.hid (KB.out.trans (hb1.mono (by omega)))
            obtain ⟨c0, c1, c2, c3, c4⟩ := k1
            clear hb1 KB k0 kz
            go_wp2_with fail
            refine (HE.out _).mono ?_
            rintro e w2 ⟨rfl, ho2, hb2⟩
            have k2 := Box5.keep ⟨c0, c1, c2, c3, c4⟩ hb2 z1
            have z2 : G < w2.heap.size := Nat.lt_of_lt_of_le z1 hb2.size
            have B2 := Lib.hid (B1.out.trans (hb2.mono (by omega)))
            have R2 := Lib.hid (reads_any (some ⟨w1.heap.size + 1, 0, none⟩) 8 (rfV (mo) (md) (ma) (mb) (mn)) w2 (Rd.of_own ho2))
            clear hb2 ho2 c0 c1 c2 c3 c4 B1 HS
            go_wp2_with fail
            refine R2.out.mono ?_
            rintro e w3 ⟨rfl, hb3⟩
            obtain ⟨c0, c1, c2, c3, c4⟩ := k2.keep hb3 z2
            have z3 : G < w3.heap.size := Nat.lt_of_lt_of_le z2 hb3.size
            have B3 := Lib.hid (B2.out.trans (hb3.mono (by omega)))
            clear hb3 k2 R2 B2
            go_wp2_with fail
            refine (HE.out _).mono ?_
            rintro e w4 ⟨rfl, ho4, hb4⟩
            have B4 := Lib.hid (B3.out.trans (hb4.mono (by omega)))
            have R4 := reads_any (some ⟨w3.heap.size + 1, 0, none⟩) 8 ((rfV (mo) (md) (ma) (mb) (mn)).take 7) w4 (by have h := (Rd.of_own ho4).take 7; simpa [bv, List.map_take] using h)
            rw [show ((rfV (mo) (md) (ma) (mb) (mn)).take 7).length = 7 from rfl] at R4
            have R4 := Lib.hid R4
            have z4 : G < w4.heap.size := Nat.lt_of_lt_of_le z3 hb4.size
            clear hb4 ho4 B3 c0 c1 c2 c3 c4 HE
            go_wp2_with fail
            refine R4.out.mono ?_
            rintro e w5 ⟨rfl, hb5⟩
            have B5 := Lib.hid (B4.out.trans (hb5.mono (by omega)))
            clear hb5 R4 B4
            go_wp2_with fail
            go_roundw
            case rel => exact ⟨9, by omega, rfl, B5⟩
            case measure => simp [intOf]
          · have hs := same_any (op) (1) (2) (3) (4) (by omega) (by omega)
            have he := rencode_any (op) (1) (2) (3) (4) (by omega) (by omega)
            have HS := Lib.hid hs
            have HE := Lib.hid he
            clear hs he
            go_wp2_with fail
            have k0 := Box5.new wr (.int .i64 (op)) (.int .i64 (1)) (.int .i64 (2)) (.int .i64 (3)) (.int .u32 (4)) 24
            have kz : wr.heap.size < (wr.alloc (.cells #[.int .i64 op, .int .i64 1, .int .i64 2, .int .i64 3, .int .u32 4] 24)).heap.size := by simp
            have kB := hR.out.alloc hzr (.cells #[.int .i64 op, .int .i64 1, .int .i64 2, .int .i64 3, .int .u32 4] 24)
            generalize wr.alloc (.cells #[.int .i64 op, .int .i64 1, .int .i64 2, .int .i64 3, .int .u32 4] 24) = W0 at *
            generalize wr.heap.size = G at *
            have KB := Lib.hid kB
            clear kB hR
            refine (HS.out _ ((HT.out.on KB.out).up (by omega))).mono ?_
            rintro e w1 ⟨rfl, hb1⟩
            have k1 := k0.keep hb1 kz
            have z1 : G < w1.heap.size := Nat.lt_of_lt_of_le kz hb1.size
            have B1 := Lib.hid (KB.out.trans (hb1.mono (by omega)))
            obtain ⟨c0, c1, c2, c3, c4⟩ := k1
            clear hb1 KB k0 kz
            go_wp2_with fail
            refine (HE.out _).mono ?_
            rintro e w2 ⟨rfl, ho2, hb2⟩
            have k2 := Box5.keep ⟨c0, c1, c2, c3, c4⟩ hb2 z1
            have z2 : G < w2.heap.size := Nat.lt_of_lt_of_le z1 hb2.size
            have B2 := Lib.hid (B1.out.trans (hb2.mono (by omega)))
            have R2 := Lib.hid (reads_any (some ⟨w1.heap.size + 1, 0, none⟩) 8 (rfV (op) (1) (2) (3) (4)) w2 (Rd.of_own ho2))
            clear hb2 ho2 c0 c1 c2 c3 c4 B1 HS
            go_wp2_with fail
            refine R2.out.mono ?_
            rintro e w3 ⟨rfl, hb3⟩
            obtain ⟨c0, c1, c2, c3, c4⟩ := k2.keep hb3 z2
            have z3 : G < w3.heap.size := Nat.lt_of_lt_of_le z2 hb3.size
            have B3 := Lib.hid (B2.out.trans (hb3.mono (by omega)))
            clear hb3 k2 R2 B2
            go_wp2_with fail
            refine (HE.out _).mono ?_
            rintro e w4 ⟨rfl, ho4, hb4⟩
            have B4 := Lib.hid (B3.out.trans (hb4.mono (by omega)))
            have R4 := reads_any (some ⟨w3.heap.size + 1, 0, none⟩) 8 ((rfV (op) (1) (2) (3) (4)).take 7) w4 (by have h := (Rd.of_own ho4).take 7; simpa [bv, List.map_take] using h)
            rw [show ((rfV (op) (1) (2) (3) (4)).take 7).length = 7 from rfl] at R4
            have R4 := Lib.hid R4
            have z4 : G < w4.heap.size := Nat.lt_of_lt_of_le z3 hb4.size
            clear hb4 ho4 B3 c0 c1 c2 c3 c4 HE
            go_wp2_with fail
            refine R4.out.mono ?_
            rintro e w5 ⟨rfl, hb5⟩
            have B5 := Lib.hid (B4.out.trans (hb5.mono (by omega)))
            clear hb5 R4 B4
            go_wp2_with fail
            go_roundw
            case rel => exact ⟨10, by omega, rfl, B5⟩
            case measure => simp [intOf]
        · go_wp2_with fail
          go_roundw
          case rel => exact ⟨op + 1, by omega, by omega, by go_num, hR⟩
          case measure => simp [intOf]; omega
    · have h1 := reads_any none 0 [] wr Rd.nil_
      have H1 := Lib.hid h1
      have hzr := hR0.out.size
      clear h1
      simp only [List.length_nil] at H1
      go_wp2_with fail
      refine H1.out.mono ?_
      rintro e w1 ⟨rfl, hb⟩
      have B1 := Lib.hid (hR0.out.trans (hb.mono hzr))
      have hz1 := B1.out.size
      have hmk := HMK.out
      clear hb H1
      go_wp2_with fail
      have hg : Blk (w1.alloc (.cells (madeCells #[Value.int .u8 0] 9) 5)) w1.heap.size 5 (bv (List.replicate 9 0)).toArray := by
        have := Blk.new w1 5 (madeCells #[Value.int .u8 0] 9)
        rw [made_u8] at this
        rw [made_u8]
        simpa [bv] using this
      have hrd : Rd (w1.alloc (.cells (madeCells #[Value.int .u8 0] 9) 5)) (w1.alloc (.cells (madeCells #[Value.int .u8 0] 9) 5)).heap.size (some ⟨w1.heap.size, 0, none⟩) (bv (List.replicate 9 0)) := fun hn => ⟨w1.heap.size, 0, rfl, hg.lt, fun j u hu => by
        rw [hg.cell]; simpa using hu⟩
      have R2 := reads_any (some ⟨w1.heap.size, 0, none⟩) 9 (List.replicate 9 0) _ hrd
      rw [List.length_replicate] at R2
      have B2 := Lib.hid (B1.out.alloc hz1 (.cells (madeCells #[Value.int .u8 0] 9) 5))
      clear hg hrd
      generalize w1.alloc (.cells (madeCells #[Value.int .u8 0] 9) 5) = W2 at *
      refine R2.mono ?_
      rintro e w3 ⟨rfl, hb3⟩
      have hz2 := B2.out.size
      have B3 := Lib.hid (B2.out.trans (hb3.mono hz2))
      clear hb3 R2 hmk
      go_wp2_with (go_at_call 10; refine (known_any _).mono ?_; rintro e w4 ⟨rfl, hb4⟩)
      go_ret
      exact ⟨rfl, B3.out.trans (hb4.mono B3.out.size)⟩
end Go.Proofs.YthobedekeebadaaDoor

/-
  innkeeperlaw2.GcodeNumbers returns true: its walk: each round of its loops asks what is true for any instruction and any bytes.
-/
import Derived.Test.YtmgjojgjonighaaDoorGs4
import Derived.Test.YtmgjojgjonighaaDoorGk1
import Derived.Test.YtmgjojgjonighaaDoorMem
import Derived.RowKit3
import Derived.Deep.LoopGhost
import Derived.Outline
import Derived.Lib.Hide
namespace Go.Proofs.YtmgjojgjonighaaDoor
open Go.RowKit
set_option linter.unusedSimpArgs false
set_option linter.unusedVariables false

def nV (k : Nat) : Int := [0, 1, 255, 256, 4294967295].getD k 0
theorem nV_bd (k : Nat) : 0 ≤ nV k ∧ nV k < 4294967296 := by
  rcases k with _ | _ | _ | _ | _ | k <;> simp [nV]
theorem nV_cell (k : Nat) (h : k < 5) : (#[.int .u32 0, .int .u32 1, .int .u32 255, .int .u32 256, .int .u32 4294967295] : Array Value)[k]? = some (.int .u32 (nV k)) := by
  have hk' : k = 0 ∨ k = 1 ∨ k = 2 ∨ k = 3 ∨ k = 4 := by omega
  rcases hk' with rfl | rfl | rfl | rfl | rfl <;> rfl
def sixB (x : Int) : List UInt8 := [byt x, 1, 2, 3, 4, 5]
theorem sixB_bv (x : Int) (x0 : 0 ≤ x) (x1 : x < 256) : bv (sixB x) = [.int .u8 x, .int .u8 1, .int .u8 2, .int .u8 3, .int .u8 4, .int .u8 5] := by
  have h : ((byt x).toNat : Int) = x := by rw [byt_val x x0]; omega
  simp [sixB, bv, h]

set_option maxRecDepth 100000 in
set_option maxHeartbeats 2000000 in
theorem gcodeNumbers_walk (w : World) (ht : Tab w.heap.size w) :
    Calls Tryd.prog 3 #[] w fun e w' => e = .returned (.bool true) ∧ Below w.heap.size w w' := by
  have HT := Lib.hid ht
  clear ht
  go_enter Tryd.func3, Tryd.ntmps3
  go_wp2_with fail
  go_loopw [1] (fun o wr => ∃ op : Int, -2 ≤ op ∧ op ≤ 260 ∧ o = .int .i64 op ∧ Hid (Below w.heap.size w wr)) (fun o _ => (260 - intOf o).toNat)
  case atStart => exact ⟨-2, by omega, by omega, rfl, Below.refl _ _⟩
  case round =>
    obtain ⟨op, ho1, ho2, rfl, hR⟩ := hrel
    by_cases hlt : op < 260
    · have hzr := hR.out.size
      go_wp2_with fail
      have kl : Blk (wr.alloc (.cells #[.int .u32 0, .int .u32 1, .int .u32 255, .int .u32 256, .int .u32 4294967295] 22)) wr.heap.size 22 #[.int .u32 0, .int .u32 1, .int .u32 255, .int .u32 256, .int .u32 4294967295] := Blk.new wr 22 _
      have kb : Below w.heap.size w (wr.alloc (.cells #[.int .u32 0, .int .u32 1, .int .u32 255, .int .u32 256, .int .u32 4294967295] 22)) := hR.out.alloc hzr _
      generalize wr.alloc (.cells #[.int .u32 0, .int .u32 1, .int .u32 255, .int .u32 256, .int .u32 4294967295] 22) = W3 at *
      generalize wr.heap.size = B at *
      have KL := Lib.hid kl
      have KB := Lib.hid kb
      clear kl kb hR
      go_loopw [12] (fun i wr => ∃ k : Nat, k ≤ 5 ∧ i = .int .i64 k ∧ Hid (Below W3.heap.size W3 wr)) (fun i _ => 5 - (intOf i).toNat)
      case atStart => exact ⟨0, by omega, rfl, Below.refl _ _⟩
      case round =>
        obtain ⟨k, hk, rfl, hR⟩ := hrel
        by_cases hk5 : k < 5
        · have e1 : wr.cell? ⟨B, k, none⟩ = some (.int .u32 (nV k)) := ((KL.out.below hR.out KL.out.lt).cell k).trans (nV_cell k hk5)
          obtain ⟨m0, m1⟩ := nV_bd k
          generalize nV k = v at *
          have hs := same_any op v m0 m1 wr ((HT.out.on (KB.out.trans (hR.out.mono KB.out.size))).up (by have := KB.out.size; have := hR.out.size; omega))
          have HS := Lib.hid hs
          clear hs m0 m1
          go_wp2_with (go_at_call 9; refine HS.out.mono ?_; rintro e w' ⟨rfl, hb⟩)
          go_roundw
          case rel => exact ⟨k + 1, by omega, by go_num, Lib.hid (hR.out.trans (hb.mono hR.out.size))⟩
          case measure => simp [intOf]; omega
        · go_wp2_with fail
          have k4 : Blk (wr.alloc (.cells #[.int .u8 (op % 256), .int .u8 1, .int .u8 2, .int .u8 3, .int .u8 4, .int .u8 5] 5)) wr.heap.size 5 #[.int .u8 (op % 256), .int .u8 1, .int .u8 2, .int .u8 3, .int .u8 4, .int .u8 5] := Blk.new wr 5 _
          have b4 : Below w.heap.size w (wr.alloc (.cells #[.int .u8 (op % 256), .int .u8 1, .int .u8 2, .int .u8 3, .int .u8 4, .int .u8 5] 5)) := (KB.out.trans (hR.out.mono KB.out.size)).alloc (by have := KB.out.size; have := hR.out.size; omega) _
          generalize wr.alloc (.cells #[.int .u8 (op % 256), .int .u8 1, .int .u8 2, .int .u8 3, .int .u8 4, .int .u8 5] 5) = W4 at *
          generalize wr.heap.size = G at *
          have x0 : 0 ≤ op % 256 := by omega
          have x1 : op % 256 < 256 := by omega
          generalize op % 256 = x at *
          have hrd : Rd W4 W4.heap.size (some ⟨G, 0, none⟩) (bv (sixB x)) := fun _ => ⟨G, 0, rfl, k4.lt, fun j u hu => by
            rw [sixB_bv x x0 x1] at hu
            rw [Nat.zero_add]
            exact (k4.cell j).trans (by simpa using hu)⟩
          have B4 := Lib.hid b4
          have HRD := Lib.hid hrd
          clear k4 b4 hrd hR KL x0 x1
          go_loopw [5] (fun i wr => ∃ k : Nat, k ≤ 7 ∧ i = .int .i64 k ∧ Hid (Below W4.heap.size W4 wr)) (fun i _ => 7 - (intOf i).toNat)
          case atStart => exact ⟨0, by omega, rfl, Below.refl _ _⟩
          case round =>
            obtain ⟨k, hk, rfl, hR⟩ := hrel
            by_cases hk6 : k < 7
            · have hlen : ((sixB x).take k).length = k := by simp [sixB]; omega
              have hs := reads_any (some ⟨G, 0, none⟩) 6 ((sixB x).take k) (by omega) (by unfold maxLen; omega) wr (by
                have h := (((HRD.out.below hR.out).more hR.out.size).take k)
                simpa [bv, List.map_take] using h)
              rw [hlen] at hs
              have HS := Lib.hid hs
              clear hs hlen
              go_wp2_with (go_at_call 10; refine HS.out.mono ?_; rintro e w' ⟨rfl, hb⟩)
              go_roundw
              case rel => exact ⟨k + 1, by omega, by go_num, Lib.hid (hR.out.trans (hb.mono hR.out.size))⟩
              case measure => simp [intOf]; omega
            · go_wp2_with fail
              go_roundw
              case rel => exact ⟨op + 1, by omega, by omega, by go_num, Lib.hid (B4.out.trans (hR.out.mono B4.out.size))⟩
              case measure => simp [intOf]; omega
    · have h1 := reads_any none 0 [] (by simp) (by unfold maxLen; omega) wr Rd.nil_
      have H1 := Lib.hid h1
      have hzr := hR.out.size
      clear h1
      simp only [List.length_nil] at H1
      go_wp2_with fail
      refine H1.out.mono ?_
      rintro e w1 ⟨rfl, hb⟩
      have hb1 := hR.out.trans (hb.mono hzr)
      go_wp2_with fail
      refine (known_any _ ((HT.out.on hb1).up (by have := hb1.size; omega))).mono ?_
      rintro e w2 ⟨rfl, hb2⟩
      have hb3 := hb1.trans (hb2.mono hb1.size)
      go_wp2_with fail
      go_ret
      exact ⟨rfl, hb3⟩
end Go.Proofs.YtmgjojgjonighaaDoor

/-
  innkeeperlaw2.GcodeTells returns true: its walk.
-/
import Derived.Test.YtmgjojgjonighaaDoorGs4
import Derived.Test.YtmgjojgjonighaaDoorGt3
import Derived.Test.YtmgjojgjonighaaDoorGk2
import Derived.Test.YtmgjojgjonighaaDoorGk1
import Derived.Test.YtmgjojgjonighaaDoorRow
import Derived.Test.YtmgjojgjonighaaDoorBytes
import Derived.Deep.RegionHeld3
import Derived.Outline
namespace Go.Proofs.YtmgjojgjonighaaDoor
open Go.RowKit
set_option linter.unusedSimpArgs false
set_option linter.unusedVariables false

theorem inN_bd (op v : Int) (v0 : 0 ≤ v) (v1 : v < 4294967296) (h : szV op ≠ 0) : 0 ≤ inN op v ∧ inN op v < 4294967296 := (inN_ok op v h v0 v1).2

set_option maxRecDepth 100000 in
set_option maxHeartbeats 2000000 in
theorem gcodeTells_walk (a0_0 a0_1 : Int) (A1 : Option Addr) (len1 cap1 : Nat) (z1 : List Int) (a2 : Int) (w : World) (w0_0 : (Lit.int .i64 a0_0).wf = true) (w0_1 : (Lit.int .u32 a0_1).wf = true) (w1 : IsRow .u8 w A1 len1 cap1 z1) (w2 : (Lit.int .i64 a2).wf = true) (hlen : len1 ≤ 140737488351232) (ht : Tab w.heap.size w) :
    Calls Tryd.prog 4 #[.agg #[.int .i64 a0_0, .int .u32 a0_1], .slice A1 len1 cap1, .int .i64 a2] w fun e w' => e = .returned (.bool true) ∧ Below w.heap.size w w' := by
  obtain ⟨n0, n1⟩ := u32_of_wf w0_1
  obtain ⟨hl, hc, hA, l, rfl, hrd⟩ := w1.bytes
  have HI := Lib.hid (instr_any a2 a0_1 w2 n0 n1)
  have hib := inN_bd (opV a2) a0_1 n0 n1 (opV_sz a2)
  generalize inN (opV a2) a0_1 = xn at *
  generalize opV a2 = xo at *
  have HRD := Lib.hid hrd
  have HT := Lib.hid ht
  have HRO := Lib.hid (fun (W : World) (hb : Below w.heap.size w W) => roomy_any A1 cap1 l 165 hl hlen W ((hrd.below hb).more hb.size))
  have HS1 := Lib.hid (fun (W : World) (hb : Below w.heap.size w W) => same_any a0_0 a0_1 n0 n1 W ((ht.on hb).up hb.size))
  have HS2 := Lib.hid (fun (W : World) (hb : Below w.heap.size w W) => same_any xo xn hib.1 hib.2 W ((ht.on hb).up hb.size))
  clear ht hrd w0_0 w0_1 w1 w2 n0 n1 hib hA
  go_enter Tryd.func4, Tryd.ntmps4
  go_wp2_with fail
  obtain ⟨c0, c1, cs, cb⟩ := box2_new w (.int .i64 a0_0) (.int .u32 a0_1) 26
  generalize w.alloc (.cells #[.int .i64 a0_0, .int .u32 a0_1] 26) = W0 at *
  refine (HRO.out _ cb).mono ?_
  rintro e w1 ⟨rfl, hblk, hb1⟩
  obtain ⟨d0, d1, ds, db⟩ := box2_keep ⟨c0, c1, cs, cb⟩ hb1
  generalize W0.heap.size = G at *
  have HBK := Lib.hid (show Blk w1 G 5 _ from hblk)
  clear c0 c1 cs cb hblk hb1 HRO
  go_wp2_with fail
  refine (HS1.out _ db).mono ?_
  rintro e w2 ⟨rfl, hb2⟩
  obtain ⟨e0, e1, es, eb⟩ := box2_keep ⟨d0, d1, ds, db⟩ hb2
  have HBK2 := Lib.hid (HBK.out.below hb2 HBK.out.lt)
  clear d0 d1 ds db hb2 HBK HS1
  go_wp2_with fail
  refine (HI.out _).mono ?_
  rintro e w3 ⟨rfl, hb3⟩
  have eb3 := eb.trans (hb3.mono eb.size)
  have HBK3 := Lib.hid (HBK2.out.below hb3 HBK2.out.lt)
  clear e0 e1 es eb hb3 HBK2 HI
  go_wp2_with fail
  refine (HS2.out _ eb3).mono ?_
  rintro e w4 ⟨rfl, hb4⟩
  have eb4 := eb3.trans (hb4.mono eb3.size)
  have HBK4 := Lib.hid (HBK3.out.below hb4 HBK3.out.lt)
  have hr4 : Rd w4 w4.heap.size (some ⟨G, 0, none⟩) (bv l) := fun _ => ⟨G, 0, rfl, HBK4.out.lt, fun j u hu => by
    rw [Nat.zero_add]
    refine (HBK4.out.cell j).trans ?_
    rw [List.getElem?_toArray, List.getElem?_append_left]
    · exact hu
    · exact (List.getElem?_eq_some_iff.1 hu).1⟩
  have HRS := Lib.hid (reads_any (some ⟨G, 0, none⟩) (l.length + 80) l (by omega) (by unfold maxLen; omega) w4 hr4)
  have hsl := slice_hi (some ⟨G, 0, none⟩) (l.length + 80) (l.length + 80) l.length (by omega) (by unfold maxLen; omega) (by simp)
  clear hr4 eb3 hb4 HBK3 HS2
  go_wp2_with fail
  refine HRS.out.mono ?_
  rintro e w5 ⟨rfl, hb5⟩
  have eb5 := eb4.trans (hb5.mono eb4.size)
  have HBK5 := Lib.hid (HBK4.out.below hb5 HBK4.out.lt)
  clear eb4 hb5 HBK4 HRS hsl
  go_wp2_with fail
  refine (intact_any G A1 cap1 l 165 hl hc hlen w5 HBK5.out ((HRD.out.below eb5).more eb5.size)).mono ?_
  rintro e w6 ⟨rfl, hb6⟩
  have eb6 := eb5.trans (hb6.mono eb5.size)
  clear eb5 hb6 HBK5 HRD
  go_wp2_with fail
  refine (known_any _ ((HT.out.on eb6).up eb6.size)).mono ?_
  rintro e w7 ⟨rfl, hb7⟩
  have eb7 := eb6.trans (hb7.mono eb6.size)
  go_wp2
  go_ret
  exact ⟨rfl, eb7⟩
end Go.Proofs.YtmgjojgjonighaaDoor

/-
  innkeeperlaw9.same returns true of a buffer and the document's own, if both hold the same: A CONTRACT.
-/
import Derived.Test.YtblfplhiamcpoaaBq
import Derived.Deep.DeepCutAuto
namespace Go.Proofs.Ytblfplhiamcpoaa
open Go.RowKit
set_option linter.unusedSimpArgs false
set_option linter.unusedVariables false

/-- four cells of block X -/
structure C4 (X : Nat) (v : Bool) (n p b : Int) (w0 w : World) : Prop where
  c0 : w.cell? ⟨X, 0, none⟩ = some (.bool v)
  c1 : w.cell? ⟨X, 1, none⟩ = some (.int .u32 n)
  c2 : w.cell? ⟨X, 2, none⟩ = some (.int .u32 p)
  c3 : w.cell? ⟨X, 3, none⟩ = some (.int .u32 b)
  lt : X < w.heap.size
  bl : Below X w0 w
section
variable {X : Nat} {v : Bool} {n p b : Int} {w0 w w' : World}
theorem C4.new (w : World) (t : TypeId) (v : Bool) (n p b : Int) : C4 w.heap.size v n p b w (w.alloc (.cells #[.bool v, .int .u32 n, .int .u32 p, .int .u32 b] t)) := by
  have hc := fun i => (Blk.new w t #[.bool v, .int .u32 n, .int .u32 p, .int .u32 b]).cell i
  have d0 := hc 0
  have d1 := hc 1
  have d2 := hc 2
  have d3 := hc 3
  simp only [List.getElem?_toArray, List.getElem?_cons_zero, List.getElem?_cons_succ] at d0 d1 d2 d3
  exact ⟨d0, d1, d2, d3, by simp, (Below.refl _ _).alloc (Nat.le_refl _) _⟩
theorem C4.below (c : C4 X v n p b w0 w) (hb : Below w.heap.size w w') : C4 X v n p b w0 w' :=
  ⟨(hb.cell c.lt).trans c.c0, (hb.cell c.lt).trans c.c1, (hb.cell c.lt).trans c.c2, (hb.cell c.lt).trans c.c3, Nat.lt_of_lt_of_le c.lt hb.size, c.bl.trans (hb.mono (Nat.le_of_lt c.lt))⟩
theorem C4.drew (c : C4 X v n p b w0 w) : C4 X v n p b w0 w.drew := c.below (Below.refl _ _).drew
end
theorem c4_keep {X : Nat} {v : Bool} {n p b : Int} {w0 w w' : World} (h : w.cell? ⟨X, 0, none⟩ = some (.bool v) ∧ w.cell? ⟨X, 1, none⟩ = some (.int .u32 n) ∧ w.cell? ⟨X, 2, none⟩ = some (.int .u32 p) ∧ w.cell? ⟨X, 3, none⟩ = some (.int .u32 b) ∧ Hid (C4 X v n p b w0 w)) (hb : Below w.heap.size w w') :
    w'.cell? ⟨X, 0, none⟩ = some (.bool v) ∧ w'.cell? ⟨X, 1, none⟩ = some (.int .u32 n) ∧ w'.cell? ⟨X, 2, none⟩ = some (.int .u32 p) ∧ w'.cell? ⟨X, 3, none⟩ = some (.int .u32 b) ∧ Hid (C4 X v n p b w0 w') := by
  have c := h.2.2.2.2.out.below hb
  exact ⟨c.c0, c.c1, c.c2, c.c3, Lib.hid c⟩
theorem c4_low {X : Nat} {v : Bool} {n p b : Int} {w w0 w1 : World} (h : w1.cell? ⟨X, 0, none⟩ = some (.bool v) ∧ w1.cell? ⟨X, 1, none⟩ = some (.int .u32 n) ∧ w1.cell? ⟨X, 2, none⟩ = some (.int .u32 p) ∧ w1.cell? ⟨X, 3, none⟩ = some (.int .u32 b) ∧ Hid (C4 X v n p b w0 w1)) (hB : Hid (Below w.heap.size w w0)) (hX : Hid (w0.heap.size = X)) (hz : w.heap.size ≤ X) : Below w.heap.size w w1 :=
  hB.out.trans (h.2.2.2.2.out.bl.mono hz)
structure TwoB (X : Nat) (w : World) : Prop where
  c0 : w.cell? ⟨X, 0, none⟩ = some (.bool true)
  c1 : w.cell? ⟨X, 1, none⟩ = some (.bool false)
  lt : X < w.heap.size
theorem two_b {X : Nat} {w w' : World} (h : TwoB X w) (hb : Below w.heap.size w w') : TwoB X w' :=
  ⟨(hb.cell h.lt).trans h.c0, (hb.cell h.lt).trans h.c1, Nat.lt_of_lt_of_le h.lt hb.size⟩
section
variable {g h : Nat} {S : Nat → En}
set_option maxRecDepth 100000 in
theorem same_any (V : Int) (h0 : 0 ≤ V) (h1 : V < 4294967296) (w : World) (hP : IsE w g 0 S) (hU : IsE w h 1 S) :
    Calls Try.prog 20 #[.pointer (some ⟨g, 0, none⟩), .pointer (some ⟨h, 0, none⟩), .int .u32 V] w fun e w' => e = .returned (.bool true) ∧ Below w.heap.size w w' := by
  have HP := Lib.hid (fun (W : World) (hb : Below w.heap.size w W) => hP.below hb)
  have HU := Lib.hid (fun (W : World) (hb : Below w.heap.size w W) => hU.below hb)
  clear hP hU
  go_enter Try.func20, Try.ntmps20
  go_wp2_with fail
  go_loopw [7, 8] (fun nn i wr => ∃ z : Int, -1 ≤ z ∧ z ≤ 17 ∧ i = .int .i64 z ∧ nn = .int .i64 ((cntE S (min z.toNat 16) : Nat) : Int) ∧ Hid (Below w.heap.size w wr)) (fun _ i _ => (17 - intOf i).toNat)
  case atStart => exact ⟨-1, by omega, by omega, rfl, rfl, Lib.hid (Below.refl _ _)⟩
  case round =>
    obtain ⟨z, hz0, hz1, rfl, rfl, hB⟩ := hrel
    have hzr := hB.out.size
    have hPr := HP.out _ hB.out
    have hUr := HU.out _ hB.out
    have hat := fun (W : World) (hb : Below w.heap.size w W) => at_any (S := S) (g := g) z W (HP.out W hb)
    unfold En.ag at hat
    by_cases h17 : z = 17
    · subst h17
      have hm : min ((17 : Int)).toNat 16 = 16 := by decide
      rw [hm]
      have hln := fun (W : World) (hb : Below w.heap.size w W) => len_any (S := S) (g := g) W (HP.out W hb)
      have hfp := fun (k : Int) (s : Bool) (W : World) (hb : Below w.heap.size w W) => find_any (S := S) (g := g) V k h0 h1 s W (HP.out W hb)
      have hfu := fun (k : Int) (s : Bool) (W : World) (hb : Below w.heap.size w W) => rfind_any (S := S) (g := h) V k h0 h1 s W (HU.out W hb)
      unfold Fnd at hfp hfu
      generalize S (sl (V / 64)) = e at *
      generalize cntE S 16 = N at *
      have HLN := Lib.hid hln
      have HFP := Lib.hid hfp
      have HFU := Lib.hid hfu
      clear hm hln hfp hfu hat hPr hUr HP HU h0 h1
      go_wp2_with fail
      go_loopw [10] (fun i w1 => ∃ z : Int, -1 ≤ z ∧ z ≤ 5 ∧ i = .int .i64 z ∧ Hid (Below w.heap.size w w1)) (fun i _ => (5 - intOf i).toNat)
      case atStart => exact ⟨-1, by omega, by omega, rfl, hB⟩
      case round =>
        obtain ⟨z, hy0, hy1, rfl, hB1⟩ := hrel
        by_cases h5 : z = 5
        · subst h5
          go_wp2_with (go_at_call 14
                       refine (HLN.out _ hB1.out).mono ?_
                       rintro r w2 ⟨rfl, hb2⟩
                       have HB2 := Lib.hid (hB1.out.trans (hb2.mono hB1.out.size))
                       clear hb2)
          go_ret
          exact ⟨rfl, HB2.out⟩
        · have hy2 : z < 5 := by omega
          clear h5
          have hB1z := hB1.out.size
          have hn0 := Blk.new wr 4 #[.bool true, .bool false]
          have hd0 : TwoB wr.heap.size (wr.alloc (.cells #[.bool true, .bool false] 4)) := ⟨hn0.cell 0, hn0.cell 1, hn0.lt⟩
          have HD0 := Lib.hid hd0
          have HB0 := Lib.hid (hB1.out.alloc hB1.out.size (.cells #[.bool true, .bool false] 4))
          clear hn0 hd0
          go_wp2_with fail
          generalize wr.alloc (.cells #[.bool true, .bool false] 4) = W at *
          generalize hX : wr.heap.size = X at *
          clear hX
          go_loopw [49] (fun i w2 => ∃ k : Nat, k ≤ 2 ∧ i = .int .i64 k ∧ Hid (Below w.heap.size w w2) ∧ Hid (TwoB X w2)) (fun i _ => (2 - intOf i).toNat)
          case atStart => exact ⟨0, by omega, rfl, HB0, HD0⟩
          case round =>
            obtain ⟨k, hk, rfl, hB2, hD⟩ := hrel
            rcases (show k = 0 ∨ k = 1 ∨ k = 2 by omega) with rfl | rfl | rfl
            · have HF1 := Lib.hid (HFP.out z true)
              have HF2 := Lib.hid (HFU.out z true)
              generalize fV e V z true = A at *
              generalize fB e V z true = R at *
              have hAA : (A != A) = false := by simp
              have hRR : (R != R) = false := by simp
              have ck := hD.out.c0
              clear HFP HFU HLN
              go_wp2_with (first
                | (go_at_call 13
                   refine (HF1.out _ hB2.out).mono ?_
                   rintro r w3 ⟨rfl, hb3⟩
                   have HB3 := Lib.hid (hB2.out.trans (hb3.mono hB2.out.size))
                   have HD3 := Lib.hid (two_b hD.out hb3)
                   clear hb3 HF1)
                | (go_at_call 25
                   refine (HF2.out _ HB3.out).mono ?_
                   rintro r w4 ⟨rfl, hb4⟩
                   have HB4 := Lib.hid (HB3.out.trans (hb4.mono HB3.out.size))
                   have HD4 := Lib.hid (two_b HD3.out hb4)
                   clear hb4 HF2))
              go_roundw
              case rel => exact ⟨1, by omega, by go_num, HB4, HD4⟩
              case measure => simp [intOf]
            · have HF1 := Lib.hid (HFP.out z false)
              have HF2 := Lib.hid (HFU.out z false)
              generalize fV e V z false = A at *
              generalize fB e V z false = R at *
              have hAA : (A != A) = false := by simp
              have hRR : (R != R) = false := by simp
              have ck := hD.out.c1
              clear HFP HFU HLN
              go_wp2_with (first
                | (go_at_call 13
                   refine (HF1.out _ hB2.out).mono ?_
                   rintro r w3 ⟨rfl, hb3⟩
                   have HB3 := Lib.hid (hB2.out.trans (hb3.mono hB2.out.size))
                   have HD3 := Lib.hid (two_b hD.out hb3)
                   clear hb3 HF1)
                | (go_at_call 25
                   refine (HF2.out _ HB3.out).mono ?_
                   rintro r w4 ⟨rfl, hb4⟩
                   have HB4 := Lib.hid (HB3.out.trans (hb4.mono HB3.out.size))
                   have HD4 := Lib.hid (two_b HD3.out hb4)
                   clear hb4 HF2))
              go_roundw
              case rel => exact ⟨2, by omega, by go_num, HB4, HD4⟩
              case measure => simp [intOf]
            · go_wp2_with fail
              go_roundw
              case rel => exact ⟨z + 1, by omega, by omega, by go_num, hB2⟩
              case measure => simp [intOf]; omega
    by_cases h16 : 0 ≤ z ∧ z < 16
    · obtain ⟨j, rfl⟩ := Int.eq_ofNat_of_zero_le h16.1
      have hj : j < 16 := by omega
      have hzh := hUr.z
      have c0 := hUr.c0 j hj
      have c1 := hUr.c1 j hj
      have c2 := hUr.c2 j hj
      have c3 := hUr.c3 j hj
      have he : atS S (j : Int) = S j := by unfold atS; rw [if_pos h16, show ((j : Int)).toNat = j by omega]
      rw [he] at hat
      have hm0 : min ((j : Int)).toNat 16 = j := by omega
      have hm1 : min ((j : Int) + 1).toNat 16 = j + 1 := by omega
      have hcs : cntE S (j + 1) = cntE S j + (if (S j).v = true then 1 else 0) := rfl
      have hle := cntE_le S j
      rw [hm0]
      generalize hcn : cntE S j = cn at *
      generalize (S j).v = v at *
      generalize (S j).n = n at *
      generalize (S j).p = p at *
      generalize (S j).b = b at *
      have hji0 : (0 : Int) ≤ (j : Int) := by omega
      have hji1 : (j : Int) < 16 := by omega
      have hji2 : (j : Int) ≤ 16 := by omega
      have hcn0 : (0 : Int) ≤ (cn : Int) := by omega
      have hcn1 : (cn : Int) ≤ 16 := by omega
      have HAT := Lib.hid hat
      have HCS := Lib.hid hcs
      have HM1 := Lib.hid hm1
      have HJ := Lib.hid hj
      have HC := Lib.hid (C4.new wr 35 v n p b)
      clear hat hcs hm0 hm1 hj he hcn hle hPr hUr h16 h17 hz0 hz1 HP HU
      go_upto_region 8 with fail
      generalize wr.alloc (.cells #[.bool v, .int .u32 n, .int .u32 p, .int .u32 b] 35) = W at *
      generalize hX : wr.heap.size = X at *
      have HX := Lib.hid hX
      clear hX c0 c1 c2 c3
      have d0 := HC.out.c0
      have d1 := HC.out.c1
      have d2 := HC.out.c2
      have d3 := HC.out.c3
      go_region_held3 (fun w' => w'.cell? ⟨X, 0, none⟩ = some (.bool v) ∧ w'.cell? ⟨X, 1, none⟩ = some (.int .u32 n) ∧ w'.cell? ⟨X, 2, none⟩ = some (.int .u32 p) ∧ w'.cell? ⟨X, 3, none⟩ = some (.int .u32 b) ∧ Hid (C4 X v n p b wr w'))
        (first | exact ⟨d0, d1, d2, d3, Lib.hid HC.out.drew⟩ | assumption | (exact ⟨(c4_keep ‹_› hb2).1, (c4_keep ‹_› hb2).2.1, (c4_keep ‹_› hb2).2.2.1, (c4_keep ‹_› hb2).2.2.2.1, (c4_keep ‹_› hb2).2.2.2.2⟩))
        (first
          | (go_at_call 17
             refine (HAT.out _ (c4_low ‹_› hB HX hzr)).mono ?_
             rintro e w2 ⟨rfl, hb2⟩))
      all_goals
        have HC2 : Hid (C4 X v n p b wr w2) := by go_split_ands; assumption
        have HB2 := Lib.hid (hB.out.trans (HC2.out.bl.mono hzr))
        go_split_ands
        clear hb2
        cases v
        · go_wp2_with fail
          go_roundw
          case rel => exact ⟨(j : Int) + 1, by omega, by omega, by go_num, by rw [HM1.out, HCS.out]; simp, HB2⟩
          case measure => simp [intOf]; omega
        · go_wp2_with fail
          go_roundw
          case rel => exact ⟨(j : Int) + 1, by omega, by omega, by go_num, by rw [HM1.out, HCS.out]; simp, HB2⟩
          case measure => simp [intOf]; omega
    · have he : atS S z = en0 := by unfold atS; rw [if_neg h16]
      rw [he] at hat
      have hm : min (z + 1).toNat 16 = min z.toNat 16 := by omega
      have hne : z ≠ 17 := h17
      have HM := Lib.hid hm
      have HAT := Lib.hid hat
      unfold en0 at HAT
      have hcn1 : (((cntE S (min z.toNat 16)) : Nat) : Int) ≤ 16 := by have := cntE_le S (min z.toNat 16); omega
      generalize hcn : cntE S (min z.toNat 16) = cn at *
      have HCN := Lib.hid hcn
      clear hcn
      have HC := Lib.hid (C4.new wr 35 false 0 0 0)
      clear hat he hm hPr hUr HP HU
      have hz16 : z ≤ 16 := by omega
      by_cases hm1 : z < 0
      · clear h16 h17
        go_upto_region 8 with fail
        generalize wr.alloc (.cells #[.bool false, .int .u32 0, .int .u32 0, .int .u32 0] 35) = W at *
        generalize hX : wr.heap.size = X at *
        have HX := Lib.hid hX
        clear hX
        have d0 := HC.out.c0
        have d1 := HC.out.c1
        have d2 := HC.out.c2
        have d3 := HC.out.c3
        go_region_held3 (fun w' => w'.cell? ⟨X, 0, none⟩ = some (.bool false) ∧ w'.cell? ⟨X, 1, none⟩ = some (.int .u32 0) ∧ w'.cell? ⟨X, 2, none⟩ = some (.int .u32 0) ∧ w'.cell? ⟨X, 3, none⟩ = some (.int .u32 0) ∧ Hid (C4 X false 0 0 0 wr w'))
          (first | exact ⟨d0, d1, d2, d3, Lib.hid HC.out.drew⟩ | assumption | (exact ⟨(c4_keep ‹_› hb2).1, (c4_keep ‹_› hb2).2.1, (c4_keep ‹_› hb2).2.2.1, (c4_keep ‹_› hb2).2.2.2.1, (c4_keep ‹_› hb2).2.2.2.2⟩))
          (first
            | (go_at_call 17
               refine (HAT.out _ (c4_low ‹_› hB HX hzr)).mono ?_
               rintro e w2 ⟨rfl, hb2⟩))
        all_goals
          have HC2 : Hid (C4 X false 0 0 0 wr w2) := by go_split_ands; assumption
          have HB2 := Lib.hid (hB.out.trans (HC2.out.bl.mono hzr))
          go_split_ands
          clear hb2
          go_wp2_with fail
          go_roundw
          case rel => exact ⟨z + 1, by omega, by omega, by go_num, by rw [HM.out, HCN.out], HB2⟩
          case measure => simp [intOf]; omega
      · have h160 : 16 ≤ z := by omega
        clear h16 h17 hm1
        go_upto_region 8 with fail
        generalize wr.alloc (.cells #[.bool false, .int .u32 0, .int .u32 0, .int .u32 0] 35) = W at *
        generalize hX : wr.heap.size = X at *
        have HX := Lib.hid hX
        clear hX
        have d0 := HC.out.c0
        have d1 := HC.out.c1
        have d2 := HC.out.c2
        have d3 := HC.out.c3
        go_region_held3 (fun w' => w'.cell? ⟨X, 0, none⟩ = some (.bool false) ∧ w'.cell? ⟨X, 1, none⟩ = some (.int .u32 0) ∧ w'.cell? ⟨X, 2, none⟩ = some (.int .u32 0) ∧ w'.cell? ⟨X, 3, none⟩ = some (.int .u32 0) ∧ Hid (C4 X false 0 0 0 wr w'))
          (first | exact ⟨d0, d1, d2, d3, Lib.hid HC.out.drew⟩ | assumption | (exact ⟨(c4_keep ‹_› hb2).1, (c4_keep ‹_› hb2).2.1, (c4_keep ‹_› hb2).2.2.1, (c4_keep ‹_› hb2).2.2.2.1, (c4_keep ‹_› hb2).2.2.2.2⟩))
          (first
            | (go_at_call 17
               refine (HAT.out _ (c4_low ‹_› hB HX hzr)).mono ?_
               rintro e w2 ⟨rfl, hb2⟩))
        all_goals
          have HC2 : Hid (C4 X false 0 0 0 wr w2) := by go_split_ands; assumption
          have HB2 := Lib.hid (hB.out.trans (HC2.out.bl.mono hzr))
          go_split_ands
          clear hb2
          go_wp2_with fail
          go_roundw
          case rel => exact ⟨z + 1, by omega, by omega, by go_num, by rw [HM.out, HCN.out], HB2⟩
          case measure => simp [intOf]; omega
end
end Go.Proofs.Ytblfplhiamcpoaa

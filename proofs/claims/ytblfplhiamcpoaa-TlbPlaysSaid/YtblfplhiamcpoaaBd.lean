/-
  innkeeperlaw9.do: A CONTRACT.
-/
import Derived.Test.YtblfplhiamcpoaaBs
import Derived.Deep.CutBlock
import Derived.StillTailTactics
namespace Go.Proofs.Ytblfplhiamcpoaa
open Go.RowKit
set_option linter.unusedSimpArgs false
set_option linter.unusedVariables false

/-- a call, as the law has it -/
def askV (k hw V p b : Int) (s : Bool) : Value := .agg #[.int .i64 k, .int .i64 hw, .int .u32 V, .int .u32 p, .int .u32 b, .bool s]
/-- the buffer and the document's own hold the same -/
structure Both (w : World) (g h : Nat) (S : Nat → En) : Prop where
  p : IsE w g 0 S
  u : IsE w h 1 S
  ne : g ≠ h
/-- the call's box: the second to fifth of its cells -/
structure Box (w : World) (X : Nat) (hw V p b : Int) : Prop where
  c1 : w.cell? ⟨X, 1, none⟩ = some (.int .i64 hw)
  c2 : w.cell? ⟨X, 2, none⟩ = some (.int .u32 V)
  c3 : w.cell? ⟨X, 3, none⟩ = some (.int .u32 p)
  c4 : w.cell? ⟨X, 4, none⟩ = some (.int .u32 b)
  lt : X < w.heap.size
section
variable {w w' : World} {g h X : Nat} {S : Nat → En} {hw V p b : Int}
theorem Both.below (d : Both w g h S) (hb : Below w.heap.size w w') : Both w' g h S := ⟨d.p.below hb, d.u.below hb, d.ne⟩
theorem Both.drew (d : Both w g h S) : Both w.drew g h S := d.below (Below.refl _ _).drew
theorem Box.below (d : Box w X hw V p b) (hb : Below w.heap.size w w') : Box w' X hw V p b :=
  ⟨(hb.cell d.lt).trans d.c1, (hb.cell d.lt).trans d.c2, (hb.cell d.lt).trans d.c3, (hb.cell d.lt).trans d.c4, Nat.lt_of_lt_of_le d.lt hb.size⟩
theorem Box.turn (d : Box w X hw V p b) (t : Turn g h w w') (h1 : X ≠ g) (h2 : X ≠ h) : Box w' X hw V p b :=
  ⟨(t.cell d.lt h1 h2).trans d.c1, (t.cell d.lt h1 h2).trans d.c2, (t.cell d.lt h1 h2).trans d.c3, (t.cell d.lt h1 h2).trans d.c4, Nat.lt_of_lt_of_le d.lt t.size⟩
end
section
variable {g h : Nat} {S : Nat → En}
/-- what do leaves -/
def Did (g h : Nat) (w : World) (e : Ending) (w' : World) : Prop :=
  e = .returned (.bool true) ∧ (∃ Y, Both w' g h Y) ∧ Turn g h w w'
set_option maxRecDepth 100000 in
set_option maxHeartbeats 4000000 in
theorem do_any (k hw V p b : Int) (s : Bool) (h0 : 0 ≤ V) (h1 : V < 4294967296) (hp : 0 ≤ p ∧ p < 4294967296) (hb : 0 ≤ b ∧ b < 4294967296) (w : World) (hD : Both w g h S) :
    Calls Try.prog 10 #[.pointer (some ⟨g, 0, none⟩), .pointer (some ⟨h, 0, none⟩), askV k hw V p b s] w (Did g h w) := by
  unfold askV Did
  have hn := fun i => (Blk.new w 28 #[.int .i64 k, .int .i64 hw, .int .u32 V, .int .u32 p, .int .u32 b, .bool s]).cell i
  have d0 := hn 0
  have hX : Box (w.alloc (.cells #[.int .i64 k, .int .i64 hw, .int .u32 V, .int .u32 p, .int .u32 b, .bool s] 28)) w.heap.size hw V p b := ⟨hn 1, hn 2, hn 3, hn 4, by simp⟩
  simp only [List.getElem?_toArray, List.getElem?_cons_zero] at d0
  have hw0 := (Below.refl w.heap.size w).alloc (Nat.le_refl _) (.cells #[.int .i64 k, .int .i64 hw, .int .u32 V, .int .u32 p, .int .u32 b, .bool s] 28)
  have HX := Lib.hid hX
  have HD := Lib.hid (hD.below hw0)
  have HT := Lib.hid (Turn.of_below (g := g) (h := h) hw0)
  have HK := Lib.hid (And.intro h0 h1)
  have HG := Lib.hid (And.intro (Nat.ne_of_lt hD.p.z).symm (Nat.ne_of_lt hD.u.z).symm)
  clear hn hX hw0 hD
  go_enter Try.func10, Try.ntmps10
  go_upto_block 0 with fail
  go_cut [7] from 10 to 55 (fun s7 wx => ∃ Y, Hid (Both wx g h Y) ∧ Hid (Turn g h w wx) ∧ Hid (Box wx w.heap.size hw V p b))
  case first =>
    generalize w.alloc (.cells #[.int .i64 k, .int .i64 hw, .int .u32 V, .int .u32 p, .int .u32 b, .bool s] 28) = W at *
    have c1 := HX.out.c1
    have c2 := HX.out.c2
    have c3 := HX.out.c3
    have c4 := HX.out.c4
    have hzx := HX.out.lt
    generalize hXX : w.heap.size = X at *
    clear hXX
    by_cases k1 : k = 1
    · subst k1
      have hq : V.tdiv 64 = V / 64 := Int.tdiv_eq_ediv_of_nonneg h0
      have hq0 : 0 ≤ V / 64 := by omega
      have hq1 : V / 64 < 67108864 := by omega
      generalize V / 64 = Q at *
      by_cases hv : 0 < hw.tmod 5
      · have hC := C4.new W 35 true Q p b
        have hl := (Below.refl W.heap.size W).alloc (Nat.le_refl _) (.cells #[.bool true, .int .u32 Q, .int .u32 p, .int .u32 b] 35)
        have HXW := Lib.hid (HX.out.below hl)
        have HTW := Lib.hid (HT.out.trans (Turn.of_below hl))
        have HDW := Lib.hid (HD.out.below hl)
        have HGW := Lib.hid (And.intro (Nat.ne_of_lt HD.out.p.z).symm (Nat.ne_of_lt HD.out.u.z).symm)
        go_upto_region 4 with fail
        generalize W.alloc (.cells #[.bool true, .int .u32 Q, .int .u32 p, .int .u32 b] 35) = W1 at *
        generalize W.heap.size = X2 at *
        have f0 := hC.c0
        have f1 := hC.c1
        have f2 := hC.c2
        have f3 := hC.c3
        have hz2 := hC.lt
        have hfl2 := fill_any ⟨true, Q, p, b⟩ ⟨hq0, Int.lt_trans hq1 (by decide)⟩ hp hb W1.drew HDW.out.drew.p
        have HFL := Lib.hid hfl2
        unfold Lf En.ag at HFL
        clear hC hl hfl2 c1 c2 c3 c4 HX HD HT
        go_region_held3 (fun w' => w'.cell? ⟨X2, 0, none⟩ = some (.bool true) ∧ w'.cell? ⟨X2, 1, none⟩ = some (.int .u32 Q) ∧ w'.cell? ⟨X2, 2, none⟩ = some (.int .u32 p) ∧ w'.cell? ⟨X2, 3, none⟩ = some (.int .u32 b))
          (first | exact ⟨f0, f1, f2, f3⟩ | assumption | (exact ⟨(hT2.cell (p := ⟨X2, 0, none⟩) hz2 HGW.out.1 HGW.out.1).trans f0, (hT2.cell (p := ⟨X2, 1, none⟩) hz2 HGW.out.1 HGW.out.1).trans f1, (hT2.cell (p := ⟨X2, 2, none⟩) hz2 HGW.out.1 HGW.out.1).trans f2, (hT2.cell (p := ⟨X2, 3, none⟩) hz2 HGW.out.1 HGW.out.1).trans f3⟩))
          (first
            | (go_at_call 12
               refine HFL.out.mono ?_
               rintro r w2 ⟨rfl, hE2, hT2⟩))
        all_goals
          have hu2 := HDW.out.drew.u.turn hT2 (Ne.symm HDW.out.ne) (Ne.symm HDW.out.ne)
          have hY : fillS S ⟨true, Q, p, b⟩ = upd S (sl Q) ⟨true, Q, p, b⟩ := if_pos rfl
          rw [hY] at hE2
          have hset := (hu2.below (Below.refl _ _).drew).set (sl Q) (sl_lt Q) ⟨true, Q, p, b⟩ ⟨⟨hq0, Int.lt_trans hq1 (by decide)⟩, hp, hb, fun h => by cases h⟩
          have hth := (hu2.below (Below.refl _ _).drew).there (sl Q) (sl_lt Q)
          have hm : Q.tmod 16 = ((sl Q : Nat) : Int) := by rw [Int.tmod_eq_emod_of_nonneg hq0, sl_cast]
          have hm2 : Q % 16 = ((sl Q : Nat) : Int) := by rw [sl_cast]
          have hj0 : (0 : Int) ≤ ((sl Q : Nat) : Int) := by omega
          have hj1 : ((sl Q : Nat) : Int) < 16 := by have := sl_lt Q; omega
          have hjc : (((sl Q : Nat) : Int)).toNat = sl Q := by omega
          have hcs : (⟨true, Q, p, b⟩ : En).cs = [.bool true, .int .u32 Q, .int .u32 p, .int .u32 b] := rfl
          rw [hcs] at hset
          have HE2 := Lib.hid hE2
          have HU2 := Lib.hid hset
          have HTH := Lib.hid hth
          have HT2 := Lib.hid (show Turn g h W1 w2 from ((Turn.of_below (Below.refl _ _).drew).trans (show Turn g h W1.drew w2 from hT2.wide)))
          have HX2 := Lib.hid (HXW.out.turn HT2.out HG.out.1 HG.out.2)
          go_split_ands
          generalize upd S (sl Q) ⟨true, Q, p, b⟩ = Y at *
          generalize sl Q = j at *
          clear hu2 hY hE2 hset hth hT2 hcs HFL f0 f1 f2 f3
          go_upto_region 7 with fail
          go_still_tail 8, (by kernel_rfl)
          change wpList _ _ _ _ _ w2.drew
          go_wp2_with (refine wpList_store_mid rfl 35 _ _ rfl h (1 + j * 4) #[.bool true, .int .u32 Q, .int .u32 p, .int .u32 b] (by rfl) (by rfl) HTH.out Try.info_ent9 (ag_one _ _ _ _) ?_)
          go_meet
          case rel =>
            have t3 : Turn g h w2 (w2.drew.setCells h (1 + j * 4) [.bool true, .int .u32 Q, .int .u32 p, .int .u32 b]) :=
              (Turn.of_below (Below.refl _ _).drew).trans (show Turn g h _ _ from Turn.wide' (Turn.setsG _ _ (Turn.refl _ _ _)))
            exact ⟨_, Lib.hid ⟨(HE2.out.below (Below.refl _ _).drew).turn (show Turn h h _ _ from Turn.setsG _ _ (Turn.refl _ _ _)) HDW.out.ne HDW.out.ne, HU2.out, HDW.out.ne⟩, Lib.hid (HTW.out.trans (HT2.out.trans t3)), Lib.hid (HX2.out.turn t3 HG.out.1 HG.out.2)⟩
      · have hC := C4.new W 35 false Q p b
        have hl := (Below.refl W.heap.size W).alloc (Nat.le_refl _) (.cells #[.bool false, .int .u32 Q, .int .u32 p, .int .u32 b] 35)
        have HXW := Lib.hid (HX.out.below hl)
        have HTW := Lib.hid (HT.out.trans (Turn.of_below hl))
        have HDW := Lib.hid (HD.out.below hl)
        have HGW := Lib.hid (And.intro (Nat.ne_of_lt HD.out.p.z).symm (Nat.ne_of_lt HD.out.u.z).symm)
        go_upto_region 4 with fail
        generalize W.alloc (.cells #[.bool false, .int .u32 Q, .int .u32 p, .int .u32 b] 35) = W1 at *
        generalize W.heap.size = X2 at *
        have f0 := hC.c0
        have f1 := hC.c1
        have f2 := hC.c2
        have f3 := hC.c3
        have hz2 := hC.lt
        have hfl2 := fill_any ⟨false, Q, p, b⟩ ⟨hq0, Int.lt_trans hq1 (by decide)⟩ hp hb W1.drew HDW.out.drew.p
        have HFL := Lib.hid hfl2
        unfold Lf En.ag at HFL
        clear hC hl hfl2 c1 c2 c3 c4 HX HD HT
        go_region_held3 (fun w' => w'.cell? ⟨X2, 0, none⟩ = some (.bool false) ∧ w'.cell? ⟨X2, 1, none⟩ = some (.int .u32 Q) ∧ w'.cell? ⟨X2, 2, none⟩ = some (.int .u32 p) ∧ w'.cell? ⟨X2, 3, none⟩ = some (.int .u32 b))
          (first | exact ⟨f0, f1, f2, f3⟩ | assumption | (exact ⟨(hT2.cell (p := ⟨X2, 0, none⟩) hz2 HGW.out.1 HGW.out.1).trans f0, (hT2.cell (p := ⟨X2, 1, none⟩) hz2 HGW.out.1 HGW.out.1).trans f1, (hT2.cell (p := ⟨X2, 2, none⟩) hz2 HGW.out.1 HGW.out.1).trans f2, (hT2.cell (p := ⟨X2, 3, none⟩) hz2 HGW.out.1 HGW.out.1).trans f3⟩))
          (first
            | (go_at_call 12
               refine HFL.out.mono ?_
               rintro r w2 ⟨rfl, hE2, hT2⟩))
        all_goals
          have hu2 := HDW.out.drew.u.turn hT2 (Ne.symm HDW.out.ne) (Ne.symm HDW.out.ne)
          have hY : fillS S ⟨false, Q, p, b⟩ = S := if_neg Bool.false_ne_true
          rw [hY] at hE2
          have HT2 := Lib.hid (show Turn g h W1 w2 from ((Turn.of_below (Below.refl _ _).drew).trans (show Turn g h W1.drew w2 from hT2.wide)))
          have HX2 := Lib.hid (HXW.out.turn HT2.out HG.out.1 HG.out.2)
          have HB2 := Lib.hid (show Both w2 g h S from ⟨hE2, hu2, HDW.out.ne⟩)
          go_split_ands
          clear hu2 hY hE2 hT2 HFL f0 f1 f2 f3
          go_wp2_with fail
          go_meet
          case rel => exact ⟨_, HB2, Lib.hid (HTW.out.trans HT2.out), HX2⟩
    have e1 : (k == 1) = false := by simpa using k1
    by_cases k2 : k = 2
    · subst k2
      have hpd := drop_any V h0 h1 W HD.out.p
      have HPD := Lib.hid hpd
      unfold Lf at HPD
      clear hpd h0 h1
      go_wp2_with (first
        | (go_at_call 15
           refine HPD.out.mono ?_
           rintro r w2 ⟨rfl, hE2, hT2⟩
           have HE2 := Lib.hid hE2
           have HT2 := Lib.hid (show Turn g h W w2 from hT2.wide)
           have HX2 := Lib.hid (HX.out.turn hT2 HG.out.1 HG.out.1)
           have hud := rdrop_any V HK.out.1 HK.out.2 w2 (HD.out.u.turn hT2 (Ne.symm HD.out.ne) (Ne.symm HD.out.ne))
           have HUD := Lib.hid hud
           unfold LfU at HUD
           have f2 := HX2.out.c2
           clear hE2 hT2 hud HPD c1 c2 c3 c4)
        | (go_at_call 18
           refine HUD.out.mono ?_
           rintro r w3 ⟨rfl, hE3, hT3⟩
           have HB3 := Lib.hid (show Both w3 g h _ from ⟨HE2.out.turn hT3 HD.out.ne HD.out.ne, hE3, HD.out.ne⟩)
           have HT3 := Lib.hid (HT2.out.trans (show Turn g h w2 w3 from hT3.wide'))
           have HX3 := Lib.hid (HX2.out.turn hT3 HG.out.2 HG.out.2)
           clear hE3 hT3 HUD HE2 HT2 HX2))
      go_meet
      case rel => exact ⟨_, HB3, Lib.hid (HT.out.trans HT3.out), HX3⟩
    have e2 : (k == 2) = false := by simpa using k2
    by_cases k3 : k = 3
    · subst k3
      have hpd := flush_any W HD.out.p
      have HPD := Lib.hid hpd
      unfold Lf at HPD
      clear hpd h0 h1
      go_wp2_with (first
        | (go_at_call 16
           refine HPD.out.mono ?_
           rintro r w2 ⟨rfl, hE2, hT2⟩
           have HE2 := Lib.hid hE2
           have HT2 := Lib.hid (show Turn g h W w2 from hT2.wide)
           have HX2 := Lib.hid (HX.out.turn hT2 HG.out.1 HG.out.1)
           have hud := rflush_any w2 (HD.out.u.turn hT2 (Ne.symm HD.out.ne) (Ne.symm HD.out.ne))
           have HUD := Lib.hid hud
           unfold LfU at HUD
           clear hE2 hT2 hud HPD c1 c2 c3 c4)
        | (go_at_call 19
           refine HUD.out.mono ?_
           rintro r w3 ⟨rfl, hE3, hT3⟩
           have HB3 := Lib.hid (show Both w3 g h _ from ⟨HE2.out.turn hT3 HD.out.ne HD.out.ne, hE3, HD.out.ne⟩)
           have HT3 := Lib.hid (HT2.out.trans (show Turn g h w2 w3 from hT3.wide'))
           have HX3 := Lib.hid (HX2.out.turn hT3 HG.out.2 HG.out.2)
           clear hE3 hT3 HUD HE2 HT2 HX2))
      go_meet
      case rel => exact ⟨_, HB3, Lib.hid (HT.out.trans HT3.out), HX3⟩
    have e3 : (k == 3) = false := by simpa using k3
    go_wp2_with fail
    go_meet
    case rel => exact ⟨_, HD, HT, HX⟩
  case rest =>
    obtain ⟨Y, HB, HT2, HX2⟩ := hcut
    have hs := same_any V h0 h1 wc HB.out.p HB.out.u
    have HS := Lib.hid hs
    have c2 := HX2.out.c2
    clear hs h0 h1 d0
    go_wp2_with (go_at_call 20
                 refine HS.out.mono ?_
                 rintro r w3 ⟨rfl, hb3⟩
                 have HB3 := Lib.hid (HB.out.below hb3)
                 have HT3 := Lib.hid (HT2.out.trans (Turn.of_below hb3))
                 clear hb3)
    go_ret
    exact ⟨rfl, ⟨_, HB3.out⟩, HT3.out⟩
end
end Go.Proofs.Ytblfplhiamcpoaa

/-
  innkeeperlaw7.RamNumbers returns true: its walk.
-/
import Derived.Test.YtgohmchodgoceaaWalkRamPlays
import Derived.Test.YtgohmchodgoceaaRk
namespace Go.Proofs.Ytgohmchodgoceaa
open Go.RowKit
set_option linter.unusedSimpArgs false
set_option linter.unusedVariables false

/-- the slices that the law brings: how long, which bytes -/
def mkN (i : Nat) : Nat := if i = 11 then 63 else if i = 14 then 3 else if i = 16 then 193 else 64
def mkF (i j : Nat) : Int := if i = 14 then [9, 0, 8].getD j 0 else 0
def Mkd (W0 : World) (i : Nat) (v : Value) (w : World) : Prop := ∃ g, v = .slice (some ⟨g, 0, none⟩) (mkN i) (mkN i) ∧ W0.heap.size ≤ g ∧ IsB w g (mkN i) (mkF i)
/-- what is made of it -/
def bldQ (i : Nat) (v : Value) : Value := .agg #[.int .i64 (if i = 14 ∨ i = 16 then 4 else 3), .int .u32 (if i = 7 then 2 else if i = 9 then 3 else if i = 11 then 1 else 0), .int .u32 0, v]
def nmL (l : Array Bool) (i : Nat) : Array Bool := (l.setIfInBounds i true).setIfInBounds (i + 1) true
def nmA (val : Nat → Value) (a : Act) (i : Nat) : Act := (a.put (some (i + 29)) (val i)).put (some (i + 30)) (bldQ i (val i))
theorem mkF_bd (i j : Nat) : 0 ≤ mkF i j ∧ mkF i j < 256 := by
  unfold mkF
  split
  · match j with
    | 0 => decide
    | 1 => decide
    | 2 => decide
    | j + 3 => simp
  · decide
theorem made_z (n : Nat) (W : World) : IsB (W.alloc (.cells (madeCells #[.int .u8 0] n) 5)) W.heap.size n fun _ => 0 := new_u8 n W
theorem made_3 (W : World) : IsB (W.alloc (.cells #[.int .u8 9, .int .u8 0, .int .u8 8] 5)) W.heap.size 3 (mkF 14) := by
  unfold IsB IsC; exact heap_alloc_new W _
set_option maxRecDepth 100000 in
set_option maxHeartbeats 16000000 in
theorem ramNumbers_walk (w : World) :
    Calls Try.prog 3 #[] w fun e w' => e = .returned (.bool true) ∧ Below w.heap.size w w' := by
  have hmb := make_u8 .i64 192 (by omega)
  have hmt := make_bool .i64 3 (by omega)
  have hm64 := make_u8 .i64 64 (by omega)
  have hm63 := make_u8 .i64 63 (by omega)
  have hm193 := make_u8 .i64 193 (by omega)
  simp only [Int.cast_ofNat_Int] at hmb hmt hm64 hm63 hm193
  have HZB := Lib.hid (new_u8 192)
  have HZT := Lib.hid (new_bool 3)
  have H64 := Lib.hid (new_u8 64)
  have H63 := Lib.hid (new_u8 63)
  have H193 := Lib.hid (new_u8 193)
  generalize madeCells #[Value.int .u8 0] 192 = ZB at *
  generalize madeCells #[Value.bool false] 3 = ZT at *
  generalize madeCells #[Value.int .u8 0] 64 = Z64 at *
  generalize madeCells #[Value.int .u8 0] 63 = Z63 at *
  generalize madeCells #[Value.int .u8 0] 193 = Z193 at *
  go_enter Try.func3, Try.ntmps3
  go_wp2_with (first
    | (go_at_call 9; refine (newM_nil none _).mono ?_; rintro e w' ⟨rfl, rfl⟩)
    | (go_at_call 10; refine (freshM_any 3 (by omega) (by omega) w).mono ?_; rintro e wa ⟨p, rfl, hd⟩; have HD := Lib.hid hd; clear hd))
  have hzb : Below wa.heap.size wa (wa.alloc (.cells ZB 5)) := (Below.refl _ _).alloc (Nat.le_refl _) _
  have hzt : Below (wa.heap.size + 1) (wa.alloc (.cells ZB 5)) ((wa.alloc (.cells ZB 5)).alloc (.cells ZT 4)) := (Below.refl _ _).alloc (by simp) _
  have hs1 : (wa.alloc (.cells ZB 5)).heap.size = wa.heap.size + 1 := by simp
  have hDD : Dual w w.heap.size p wa.heap.size (wa.heap.size + 1) ((wa.alloc (.cells ZB 5)).alloc (.cells ZT 4)) (rm0 3) (rm0 3).b (rm0 3).tu := by
    have hdb := HD.out.keep HD.out.b.size hzb
    have hdt := hdb.keep (by have := HD.out.b.size; omega) (by rw [hs1]; exact hzt)
    have hT := HZT.out (wa.alloc (.cells ZB 5))
    rw [hs1] at hT
    have := HD.out.b.size
    refine ⟨hdt, ?_, hT, HD.out.m.off (Nat.le_refl _), HD.out.m.off (by omega), by omega, by omega, by omega, fun i hi _ _ _ => hdt.b.block i hi⟩
    show IsB _ _ 192 _
    exact IsC.below (HZB.out wa) hzt (by omega)
  have HDD := Lib.hid hDD
  clear HD hzb hzt hs1 hDD HZB HZT
  generalize (wa.alloc (.cells ZB 5)).alloc (.cells ZT 4) = W0 at *
  generalize wa.heap.size + 1 = gt at *
  generalize wa.heap.size = gb at *
  generalize hG : w.heap.size = B at *
  have HG := Lib.hid hG
  clear hG hmb hmt
  have hst : Below W0.heap.size W0 W0.drew := (Below.refl _ _).drew
  refine wp_region_held_drew (S := fun w' => Below W0.heap.size W0 w') (by kernel_rfl) hst (fun hHeld => ?_)
  try dsimp only
  refine' wpAnyH_take (i := 0) (v := _) rfl (by kernel_rfl) (by kernel_rfl) (by kernel_rfl) (fun _ _ _ h => h) (Or.inl ⟨by rfl, ?hy0⟩) hHeld ?_
  case hy0 => (intro w hSw; (try dsimp only at hSw); go_simp; (try with_reducible rfl))
  (try simp only [Act.put, List.getElem_toArray, List.getElem_cons_succ, List.getElem_cons_zero, List.setIfInBounds_toArray, List.set_cons_zero, List.set_cons_succ])
  refine' wpAnyH_take (i := 1) (v := _) rfl (by kernel_rfl) (by kernel_rfl) (by kernel_rfl) (fun _ _ _ h => h) (Or.inl ⟨by rfl, ?hy1⟩) hHeld ?_
  case hy1 => (intro w hSw; (try dsimp only at hSw); go_simp; (try with_reducible rfl))
  (try simp only [Act.put, List.getElem_toArray, List.getElem_cons_succ, List.getElem_cons_zero, List.setIfInBounds_toArray, List.set_cons_zero, List.set_cons_succ])
  refine' wpAnyH_take (i := 2) (v := _) rfl (by kernel_rfl) (by kernel_rfl) (by kernel_rfl) (fun _ _ _ h => h) (Or.inl ⟨by rfl, ?hy2⟩) hHeld ?_
  case hy2 => (intro w hSw; (try dsimp only at hSw); go_simp; (try with_reducible rfl))
  (try simp only [Act.put, List.getElem_toArray, List.getElem_cons_succ, List.getElem_cons_zero, List.setIfInBounds_toArray, List.set_cons_zero, List.set_cons_succ])
  refine' wpAnyH_take (i := 3) (v := _) rfl (by kernel_rfl) (by kernel_rfl) (by kernel_rfl) (fun _ _ _ h => h) (Or.inl ⟨by rfl, ?hy3⟩) hHeld ?_
  case hy3 => (intro w hSw; (try dsimp only at hSw); go_simp; (try with_reducible rfl))
  (try simp only [Act.put, List.getElem_toArray, List.getElem_cons_succ, List.getElem_cons_zero, List.setIfInBounds_toArray, List.set_cons_zero, List.set_cons_succ])
  refine' wpAnyH_take (i := 4) (v := _) rfl (by kernel_rfl) (by kernel_rfl) (by kernel_rfl) (fun _ _ _ h => h) (Or.inl ⟨by rfl, ?hy4⟩) hHeld ?_
  case hy4 => (intro w hSw; (try dsimp only at hSw); go_simp; (try with_reducible rfl))
  (try simp only [Act.put, List.getElem_toArray, List.getElem_cons_succ, List.getElem_cons_zero, List.setIfInBounds_toArray, List.set_cons_zero, List.set_cons_succ])
  refine' wpAnyH_take (i := 5) (v := _) rfl (by kernel_rfl) (by kernel_rfl) (by kernel_rfl) (fun _ _ _ h => h) (Or.inl ⟨by rfl, ?hy5⟩) hHeld ?_
  case hy5 => (intro w hSw; (try dsimp only at hSw); go_simp; (try with_reducible rfl))
  (try simp only [Act.put, List.getElem_toArray, List.getElem_cons_succ, List.getElem_cons_zero, List.setIfInBounds_toArray, List.set_cons_zero, List.set_cons_succ])
  refine' wpAnyH_take (i := 6) (v := _) rfl (by kernel_rfl) (by kernel_rfl) (by kernel_rfl) (fun _ _ _ h => h) (Or.inl ⟨by rfl, ?hy6⟩) hHeld ?_
  case hy6 => (intro w hSw; (try dsimp only at hSw); go_simp; (try with_reducible rfl))
  (try simp only [Act.put, List.getElem_toArray, List.getElem_cons_succ, List.getElem_cons_zero, List.setIfInBounds_toArray, List.set_cons_zero, List.set_cons_succ])
  refine' wpAnyH_take (i := 13) (v := _) rfl (by kernel_rfl) (by kernel_rfl) (by kernel_rfl) (fun _ _ _ h => h) (Or.inl ⟨by rfl, ?hy13⟩) hHeld ?_
  case hy13 => (intro w hSw; (try dsimp only at hSw); go_simp; (try with_reducible rfl))
  (try simp only [Act.put, List.getElem_toArray, List.getElem_cons_succ, List.getElem_cons_zero, List.setIfInBounds_toArray, List.set_cons_zero, List.set_cons_succ])
  refine' wpAnyH_take (i := 18) (v := _) rfl (by kernel_rfl) (by kernel_rfl) (by kernel_rfl) (fun _ _ _ h => h) (Or.inl ⟨by rfl, ?hy18⟩) hHeld ?_
  case hy18 => (intro w hSw; (try dsimp only at hSw); go_simp; (try with_reducible rfl))
  (try simp only [Act.put, List.getElem_toArray, List.getElem_cons_succ, List.getElem_cons_zero, List.setIfInBounds_toArray, List.set_cons_zero, List.set_cons_succ])
  refine' wpAnyH_take (i := 19) (v := _) rfl (by kernel_rfl) (by kernel_rfl) (by kernel_rfl) (fun _ _ _ h => h) (Or.inl ⟨by rfl, ?hy19⟩) hHeld ?_
  case hy19 => (intro w hSw; (try dsimp only at hSw); go_simp; (try with_reducible rfl))
  (try simp only [Act.put, List.getElem_toArray, List.getElem_cons_succ, List.getElem_cons_zero, List.setIfInBounds_toArray, List.set_cons_zero, List.set_cons_succ])
  refine' wpAnyH_take (i := 20) (v := _) rfl (by kernel_rfl) (by kernel_rfl) (by kernel_rfl) (fun _ _ _ h => h) (Or.inl ⟨by rfl, ?hy20⟩) hHeld ?_
  case hy20 => (intro w hSw; (try dsimp only at hSw); go_simp; (try with_reducible rfl))
  (try simp only [Act.put, List.getElem_toArray, List.getElem_cons_succ, List.getElem_cons_zero, List.setIfInBounds_toArray, List.set_cons_zero, List.set_cons_succ])
  refine' wpAnyH_take (i := 23) (v := _) rfl (by kernel_rfl) (by kernel_rfl) (by kernel_rfl) (fun _ _ _ h => h) (Or.inl ⟨by rfl, ?hy23⟩) hHeld ?_
  case hy23 => (intro w hSw; (try dsimp only at hSw); go_simp; (try with_reducible rfl))
  (try simp only [Act.put, List.getElem_toArray, List.getElem_cons_succ, List.getElem_cons_zero, List.setIfInBounds_toArray, List.set_cons_zero, List.set_cons_succ])
  refine wpAnyH_units [7, 9, 11, 14, 16] (by decide) (fun i => i + 29) nmL nmA (Mkd W0) (fun w w' h hb => h.trans (hb.mono h.size)) (fun i v w w' h hb => ?keep) ?mk _ _ 2 ?unit ?ready ?fin 5 (fun _ => false) (fun _ => undef) _ rfl hHeld (fun i _ h => by cases h)
  case keep =>
    obtain ⟨g, e, h1, h2⟩ := h
    exact ⟨g, e, h1, IsC.after h2 hb⟩
  case ready =>
    intro b hne
    cases h7 : b 7 <;> cases h9 : b 9 <;> cases h11 : b 11 <;> cases h14 : b 14 <;> cases h16 : b 16
    all_goals
      first
        | (exfalso; apply hne; simp only [List.filter, h7, h9, h11, h14, h16, Bool.not_true]; done)
        | (simp only [foldB, nmL, List.filter, h7, h9, h11, h14, h16, Bool.false_eq_true, if_true, if_false, Bool.not_true, Bool.not_false]
           kernel_rfl)
  case mk =>
    intro i hi a w K hs hK
    simp only [List.mem_cons, List.not_mem_nil, or_false] at hi
    rcases hi with rfl | rfl | rfl | rfl | rfl
    · refine wpOp_step rfl (fun K' hK' => ?_)
      go_simp
      refine hK' _ _ (hK _ _ ⟨_, rfl, hs.size, H64.out w⟩ ((Below.refl _ _).alloc (Nat.le_refl _) _))
    · refine wpOp_step rfl (fun K' hK' => ?_)
      go_simp
      refine hK' _ _ (hK _ _ ⟨_, rfl, hs.size, H64.out w⟩ ((Below.refl _ _).alloc (Nat.le_refl _) _))
    · refine wpOp_step rfl (fun K' hK' => ?_)
      go_simp
      refine hK' _ _ (hK _ _ ⟨_, rfl, hs.size, H63.out w⟩ ((Below.refl _ _).alloc (Nat.le_refl _) _))
    · refine wpOp_step rfl (fun K' hK' => ?_)
      go_simp
      refine hK' _ _ (hK _ _ ⟨_, rfl, hs.size, made_3 w⟩ ((Below.refl _ _).alloc (Nat.le_refl _) _))
    · refine wpOp_step rfl (fun K' hK' => ?_)
      go_simp
      refine hK' _ _ (hK _ _ ⟨_, rfl, hs.size, H193.out w⟩ ((Below.refl _ _).alloc (Nat.le_refl _) _))
  case unit =>
    intro i hi b val v w m hb hv hs h
    simp only [List.mem_cons, List.not_mem_nil, or_false] at hi
    rcases hi with rfl | rfl | rfl | rfl | rfl
    · obtain ⟨g, rfl, _, _⟩ := hv
      cases h9 : b 9 <;> cases h11 : b 11 <;> cases h14 : b 14 <;> cases h16 : b 16
      all_goals
        simp only [foldB, nmL, nmA, bldQ, mkN, h9, h11, h14, h16, hb, Nat.reduceEqDiff, if_true, if_false, Bool.false_eq_true, or_true, true_or, or_false, false_or, or_self, Nat.reduceAdd, Act.put, List.setIfInBounds_toArray, List.set_cons_zero, List.set_cons_succ] at h ⊢
        refine' wpAnyH_take (i := 8) (v := _) rfl (by kernel_rfl) (by kernel_rfl) (by kernel_rfl) (fun _ _ _ h => h) (Or.inl ⟨by rfl, ?hy⟩) hs ?_
        case hy => (intro w hSw; (try dsimp only at hSw); go_simp; (try with_reducible rfl))
        (try simp only [Act.put, List.getElem_toArray, List.getElem_cons_succ, List.getElem_cons_zero, List.setIfInBounds_toArray, List.set_cons_zero, List.set_cons_succ])
        exact h
    · obtain ⟨g, rfl, _, _⟩ := hv
      cases h7 : b 7 <;> cases h11 : b 11 <;> cases h14 : b 14 <;> cases h16 : b 16
      all_goals
        simp only [foldB, nmL, nmA, bldQ, mkN, h7, h11, h14, h16, hb, Nat.reduceEqDiff, if_true, if_false, Bool.false_eq_true, or_true, true_or, or_false, false_or, or_self, Nat.reduceAdd, Act.put, List.setIfInBounds_toArray, List.set_cons_zero, List.set_cons_succ] at h ⊢
        refine' wpAnyH_take (i := 10) (v := _) rfl (by kernel_rfl) (by kernel_rfl) (by kernel_rfl) (fun _ _ _ h => h) (Or.inl ⟨by rfl, ?hy⟩) hs ?_
        case hy => (intro w hSw; (try dsimp only at hSw); go_simp; (try with_reducible rfl))
        (try simp only [Act.put, List.getElem_toArray, List.getElem_cons_succ, List.getElem_cons_zero, List.setIfInBounds_toArray, List.set_cons_zero, List.set_cons_succ])
        exact h
    · obtain ⟨g, rfl, _, _⟩ := hv
      cases h7 : b 7 <;> cases h9 : b 9 <;> cases h14 : b 14 <;> cases h16 : b 16
      all_goals
        simp only [foldB, nmL, nmA, bldQ, mkN, h7, h9, h14, h16, hb, Nat.reduceEqDiff, if_true, if_false, Bool.false_eq_true, or_true, true_or, or_false, false_or, or_self, Nat.reduceAdd, Act.put, List.setIfInBounds_toArray, List.set_cons_zero, List.set_cons_succ] at h ⊢
        refine' wpAnyH_take (i := 12) (v := _) rfl (by kernel_rfl) (by kernel_rfl) (by kernel_rfl) (fun _ _ _ h => h) (Or.inl ⟨by rfl, ?hy⟩) hs ?_
        case hy => (intro w hSw; (try dsimp only at hSw); go_simp; (try with_reducible rfl))
        (try simp only [Act.put, List.getElem_toArray, List.getElem_cons_succ, List.getElem_cons_zero, List.setIfInBounds_toArray, List.set_cons_zero, List.set_cons_succ])
        exact h
    · obtain ⟨g, rfl, _, _⟩ := hv
      cases h7 : b 7 <;> cases h9 : b 9 <;> cases h11 : b 11 <;> cases h16 : b 16
      all_goals
        simp only [foldB, nmL, nmA, bldQ, mkN, h7, h9, h11, h16, hb, Nat.reduceEqDiff, if_true, if_false, Bool.false_eq_true, or_true, true_or, or_false, false_or, or_self, Nat.reduceAdd, Act.put, List.setIfInBounds_toArray, List.set_cons_zero, List.set_cons_succ] at h ⊢
        refine' wpAnyH_take (i := 15) (v := _) rfl (by kernel_rfl) (by kernel_rfl) (by kernel_rfl) (fun _ _ _ h => h) (Or.inl ⟨by rfl, ?hy⟩) hs ?_
        case hy => (intro w hSw; (try dsimp only at hSw); go_simp; (try with_reducible rfl))
        (try simp only [Act.put, List.getElem_toArray, List.getElem_cons_succ, List.getElem_cons_zero, List.setIfInBounds_toArray, List.set_cons_zero, List.set_cons_succ])
        exact h
    · obtain ⟨g, rfl, _, _⟩ := hv
      cases h7 : b 7 <;> cases h9 : b 9 <;> cases h11 : b 11 <;> cases h14 : b 14
      all_goals
        simp only [foldB, nmL, nmA, bldQ, mkN, h7, h9, h11, h14, hb, Nat.reduceEqDiff, if_true, if_false, Bool.false_eq_true, or_true, true_or, or_false, false_or, or_self, Nat.reduceAdd, Act.put, List.setIfInBounds_toArray, List.set_cons_zero, List.set_cons_succ] at h ⊢
        refine' wpAnyH_take (i := 17) (v := _) rfl (by kernel_rfl) (by kernel_rfl) (by kernel_rfl) (fun _ _ _ h => h) (Or.inl ⟨by rfl, ?hy⟩) hs ?_
        case hy => (intro w hSw; (try dsimp only at hSw); go_simp; (try with_reducible rfl))
        (try simp only [Act.put, List.getElem_toArray, List.getElem_cons_succ, List.getElem_cons_zero, List.setIfInBounds_toArray, List.set_cons_zero, List.set_cons_succ])
        exact h
  case fin =>
    intro val W1 hs hf
    obtain ⟨g7, e7, l7, m7⟩ := hf 7 (by simp)
    obtain ⟨g9, e9, l9, m9⟩ := hf 9 (by simp)
    obtain ⟨g11, e11, l11, m11⟩ := hf 11 (by simp)
    obtain ⟨g14, e14, l14, m14⟩ := hf 14 (by simp)
    obtain ⟨g16, e16, l16, m16⟩ := hf 16 (by simp)
    have M7 := Lib.hid (And.intro l7 (show IsB W1 g7 64 (mkF 7) from m7))
    have M9 := Lib.hid (And.intro l9 (show IsB W1 g9 64 (mkF 9) from m9))
    have M11 := Lib.hid (And.intro l11 (show IsB W1 g11 63 (mkF 11) from m11))
    have M14 := Lib.hid (And.intro l14 (show IsB W1 g14 3 (mkF 14) from m14))
    have M16 := Lib.hid (And.intro l16 (show IsB W1 g16 193 (mkF 16) from m16))
    simp only [foldB, nmL, nmA, bldQ, mkN, e7, e9, e11, e14, e16, Nat.reduceEqDiff, if_true, if_false, or_true, true_or, or_false, false_or, or_self, Nat.reduceAdd, Act.put, List.setIfInBounds_toArray, List.set_cons_zero, List.set_cons_succ]
    clear hf e7 e9 e11 e14 e16 l7 m7 l9 m9 l11 m11 l14 m14 l16 m16
    refine wpAnyH_ready (rs := [21]) (by kernel_rfl) (by simp) ?_
    refine AllReadyH.cons rfl (fun K hK => ?_) AllReadyH.nil
    go_simp
    generalize hW2 : W1.alloc _ = W2
    have hba : Below W1.heap.size W1 W2 := by rw [← hW2]; exact (Below.refl _ _).alloc (Nat.le_refl _) _
    have hrow : Blk W2 W1.heap.size 33 #[.int .i64 1, .int .u32 5, .int .u32 0, .slice none 0 0, .int .i64 1, .int .u32 191, .int .u32 7, .slice none 0 0, .int .i64 1, .int .u32 192, .int .u32 1, .slice none 0 0, .int .i64 2, .int .u32 188, .int .u32 16909060, .slice none 0 0, .int .i64 2, .int .u32 189, .int .u32 1, .slice none 0 0, .int .i64 2, .int .u32 4294967295, .int .u32 1, .slice none 0 0, .int .i64 2, .int .u32 126, .int .u32 2864434397, .slice none 0 0, .int .i64 3, .int .u32 2, .int .u32 0, .slice (some ⟨g7, 0, none⟩) 64 64, .int .i64 3, .int .u32 3, .int .u32 0, .slice (some ⟨g9, 0, none⟩) 64 64, .int .i64 3, .int .u32 1, .int .u32 0, .slice (some ⟨g11, 0, none⟩) 63 63, .int .i64 5, .int .u32 0, .int .u32 0, .slice none 0 0, .int .i64 4, .int .u32 0, .int .u32 0, .slice (some ⟨g14, 0, none⟩) 3 3, .int .i64 4, .int .u32 0, .int .u32 0, .slice (some ⟨g16, 0, none⟩) 193 193, .int .i64 6, .int .u32 0, .int .u32 0, .slice none 0 0, .int .i64 6, .int .u32 0, .int .u32 0, .slice none 0 0, .int .i64 1, .int .u32 1, .int .u32 1, .slice none 0 0] := by rw [← hW2]; exact Blk.new W1 _ _
    have hsz2 : W2.heap.size = W1.heap.size + 1 := by rw [← hW2]; simp
    have hs2 : Below W0.heap.size W0 W2 := hs.trans (hba.mono hs.size)
    clear hW2
    have HRW := Lib.hid hrow
    clear hrow
    generalize hgr : W1.heap.size = gr at hba HRW hsz2 ⊢
    refine hK.out _ _ hs2 (fun hHeld => ?_)
    clear hK K
    (try simp only [Act.put, List.getElem_toArray, List.getElem_cons_succ, List.getElem_cons_zero, List.setIfInBounds_toArray, List.set_cons_zero, List.set_cons_succ])
    refine' wpAnyH_take (i := 22) (v := _) rfl (by kernel_rfl) (by kernel_rfl) (by kernel_rfl) (fun _ _ _ h => h) (Or.inl ⟨by rfl, ?hy22⟩) hHeld ?_
    case hy22 => (intro w hSw; (try dsimp only at hSw); go_simp; (try with_reducible rfl))
    (try simp only [Act.put, List.getElem_toArray, List.getElem_cons_succ, List.getElem_cons_zero, List.setIfInBounds_toArray, List.set_cons_zero, List.set_cons_succ])
    refine wpAnyH_done (by kernel_rfl) ?_ _
    have hBW0 := HDD.out.size (Nat.le_of_eq HG.out.symm)
    have hW0g : W0.heap.size ≤ gr := by rw [← hgr]; exact hs.size
    have hD1 := HDD.out.keep (Nat.le_of_eq HG.out.symm) hs2
    have hoff := HDD.out.d.m
    have HGR := Lib.hid (show p.Off gr ∧ gb ≠ gr ∧ gt ≠ gr from ⟨hoff.off hW0g, by have := HDD.out.z.1; omega, by have := HDD.out.z.2; omega⟩)
    have hofN : ∀ g, W0.heap.size ≤ g → p.Off g ∧ gb ≠ g ∧ gt ≠ g := fun g hg => ⟨hoff.off hg, by have := HDD.out.z.1; omega, by have := HDD.out.z.2; omega⟩
    have hrr : ∀ (g n i : Nat), W0.heap.size ≤ g ∧ IsB W1 g n (mkF i) → ∀ (W : World) {Y : Rm} {F : Nat → Int} {G : Nat → Bool}, Dual W2 B p gb gt W Y F G → RdO W p gb gt (some ⟨g, 0, none⟩) (ub (rowL (mkF i) n)) := fun g n i h W Y F G hd => by
      have hg := IsC.lt h.2
      obtain ⟨o1, o2, o3⟩ := hofN g h.1
      exact RdO.of_row (IsC.keep (IsC.below h.2 hba (by omega)) (hd.k g (by omega) o1 o2 o3)) o1 o2 o3
    have HR7 := Lib.hid (fun W {Y F G} (hd : Dual W2 B p gb gt W Y F G) => hrr g7 64 7 M7.out W hd)
    have HR9 := Lib.hid (fun W {Y F G} (hd : Dual W2 B p gb gt W Y F G) => hrr g9 64 9 M9.out W hd)
    have HR11 := Lib.hid (fun W {Y F G} (hd : Dual W2 B p gb gt W Y F G) => hrr g11 63 11 M11.out W hd)
    have HR14 := Lib.hid (fun W {Y F G} (hd : Dual W2 B p gb gt W Y F G) => hrr g14 3 14 M14.out W hd)
    have HR16 := Lib.hid (fun W {Y F G} (hd : Dual W2 B p gb gt W Y F G) => hrr g16 193 16 M16.out W hd)
    have HW := Lib.hid hD1.d.b
    have HD2 := Lib.hid hD1.now
    have HROW := Lib.hid (And.intro HRW.out (show gr < W2.heap.size by omega))
    have HBL := Lib.hid (show B ≤ W2.heap.size by omega)
    clear hba HRW hBW0 hD1 hoff hofN hsz2 hrr M7 M9 M11 M14 M16 hs hs2 hHeld HDD hgr hW0g
    go_wp2_with fail
    go_loopw [52] (fun i wr => ∃ (k : Nat) (X : Rm), k ≤ 16 ∧ i = .int .i64 k ∧ Hid (X.n = 3) ∧ Hid (Dual W2 B p gb gt wr X X.b X.tu)) (fun i _ => 16 - (intOf i).toNat)
    case atStart => exact ⟨0, rm0 3, by omega, rfl, Lib.hid rfl, HD2⟩
    case round =>
      clear HD2
      obtain ⟨k, X, hk, rfl, hX, hD⟩ := hrel
      have hblk : Blk wr gr 33 #[.int .i64 1, .int .u32 5, .int .u32 0, .slice none 0 0, .int .i64 1, .int .u32 191, .int .u32 7, .slice none 0 0, .int .i64 1, .int .u32 192, .int .u32 1, .slice none 0 0, .int .i64 2, .int .u32 188, .int .u32 16909060, .slice none 0 0, .int .i64 2, .int .u32 189, .int .u32 1, .slice none 0 0, .int .i64 2, .int .u32 4294967295, .int .u32 1, .slice none 0 0, .int .i64 2, .int .u32 126, .int .u32 2864434397, .slice none 0 0, .int .i64 3, .int .u32 2, .int .u32 0, .slice (some ⟨g7, 0, none⟩) 64 64, .int .i64 3, .int .u32 3, .int .u32 0, .slice (some ⟨g9, 0, none⟩) 64 64, .int .i64 3, .int .u32 1, .int .u32 0, .slice (some ⟨g11, 0, none⟩) 63 63, .int .i64 5, .int .u32 0, .int .u32 0, .slice none 0 0, .int .i64 4, .int .u32 0, .int .u32 0, .slice (some ⟨g14, 0, none⟩) 3 3, .int .i64 4, .int .u32 0, .int .u32 0, .slice (some ⟨g16, 0, none⟩) 193 193, .int .i64 6, .int .u32 0, .int .u32 0, .slice none 0 0, .int .i64 6, .int .u32 0, .int .u32 0, .slice none 0 0, .int .i64 1, .int .u32 1, .int .u32 1, .slice none 0 0] := (hD.out.k gr HROW.out.2 HGR.out.1 HGR.out.2.1 HGR.out.2.2).trans HROW.out.1
      have hb1 : ∀ cs, Below wr.heap.size wr (wr.alloc (.cells cs 33)) := fun cs => (Below.refl _ _).alloc (Nat.le_refl _) _
      rcases (show k = 0 ∨ k = 1 ∨ k = 2 ∨ k = 3 ∨ k = 4 ∨ k = 5 ∨ k = 6 ∨ k = 7 ∨ k = 8 ∨ k = 9 ∨ k = 10 ∨ k = 11 ∨ k = 12 ∨ k = 13 ∨ k = 14 ∨ k = 15 ∨ k = 16 by omega) with rfl | rfl | rfl | rfl | rfl | rfl | rfl | rfl | rfl | rfl | rfl | rfl | rfl | rfl | rfl | rfl | rfl
      · have c0 : wr.cell? ⟨gr, 0, none⟩ = some (.int .i64 1) := hblk.cell _
        have c1 : wr.cell? ⟨gr, 1, none⟩ = some (.int .u32 5) := hblk.cell _
        have c2 : wr.cell? ⟨gr, 2, none⟩ = some (.int .u32 0) := hblk.cell _
        have c3 : wr.cell? ⟨gr, 3, none⟩ = some (.slice none 0 0) := hblk.cell _
        have HDO := Lib.hid (do_at (n := 3) (N := 192) hX.out rfl 1 0 5 none 0 0 [] (by omega) (by omega) (by first | rfl | rw [rowL_len]) (by omega) (fun x h => by cases h) (wr.alloc (.cells #[.int .i64 1, .int .u32 5, .int .u32 0, .slice none 0 0] 33)) HBL.out (hD.out.keep HBL.out (hb1 _)) (fun h => absurd h (by simp [ub])))
        clear hblk hb1
        go_wp2_with (first
          | (go_at_call 11
             refine HDO.out.mono ?_
             rintro e w9 ⟨rfl, Y, hYn, hDY⟩
             have HYN := Lib.hid hYn
             have HDY := Lib.hid hDY
             clear hYn hDY)
          | (go_at_call 12
             refine (alike_at (n := 3) (N := 192) HYN.out rfl w9 HBL.out HDY.out).mono ?_
             rintro e w10 ⟨rfl, hb10⟩
             have HDZ := Lib.hid (HDY.out.keep HBL.out hb10)
             clear hb10))
        go_round
        case rel => exact ⟨1, Y, by omega, rfl, HYN, HDZ⟩
        case measure => simp [intOf]
      · have c0 : wr.cell? ⟨gr, 4, none⟩ = some (.int .i64 1) := hblk.cell _
        have c1 : wr.cell? ⟨gr, 5, none⟩ = some (.int .u32 191) := hblk.cell _
        have c2 : wr.cell? ⟨gr, 6, none⟩ = some (.int .u32 7) := hblk.cell _
        have c3 : wr.cell? ⟨gr, 7, none⟩ = some (.slice none 0 0) := hblk.cell _
        have HDO := Lib.hid (do_at (n := 3) (N := 192) hX.out rfl 1 7 191 none 0 0 [] (by omega) (by omega) (by first | rfl | rw [rowL_len]) (by omega) (fun x h => by cases h) (wr.alloc (.cells #[.int .i64 1, .int .u32 191, .int .u32 7, .slice none 0 0] 33)) HBL.out (hD.out.keep HBL.out (hb1 _)) (fun h => absurd h (by simp [ub])))
        clear hblk hb1
        go_wp2_with (first
          | (go_at_call 11
             refine HDO.out.mono ?_
             rintro e w9 ⟨rfl, Y, hYn, hDY⟩
             have HYN := Lib.hid hYn
             have HDY := Lib.hid hDY
             clear hYn hDY)
          | (go_at_call 12
             refine (alike_at (n := 3) (N := 192) HYN.out rfl w9 HBL.out HDY.out).mono ?_
             rintro e w10 ⟨rfl, hb10⟩
             have HDZ := Lib.hid (HDY.out.keep HBL.out hb10)
             clear hb10))
        go_round
        case rel => exact ⟨2, Y, by omega, rfl, HYN, HDZ⟩
        case measure => simp [intOf]
      · have c0 : wr.cell? ⟨gr, 8, none⟩ = some (.int .i64 1) := hblk.cell _
        have c1 : wr.cell? ⟨gr, 9, none⟩ = some (.int .u32 192) := hblk.cell _
        have c2 : wr.cell? ⟨gr, 10, none⟩ = some (.int .u32 1) := hblk.cell _
        have c3 : wr.cell? ⟨gr, 11, none⟩ = some (.slice none 0 0) := hblk.cell _
        have HDO := Lib.hid (do_at (n := 3) (N := 192) hX.out rfl 1 1 192 none 0 0 [] (by omega) (by omega) (by first | rfl | rw [rowL_len]) (by omega) (fun x h => by cases h) (wr.alloc (.cells #[.int .i64 1, .int .u32 192, .int .u32 1, .slice none 0 0] 33)) HBL.out (hD.out.keep HBL.out (hb1 _)) (fun h => absurd h (by simp [ub])))
        clear hblk hb1
        go_wp2_with (first
          | (go_at_call 11
             refine HDO.out.mono ?_
             rintro e w9 ⟨rfl, Y, hYn, hDY⟩
             have HYN := Lib.hid hYn
             have HDY := Lib.hid hDY
             clear hYn hDY)
          | (go_at_call 12
             refine (alike_at (n := 3) (N := 192) HYN.out rfl w9 HBL.out HDY.out).mono ?_
             rintro e w10 ⟨rfl, hb10⟩
             have HDZ := Lib.hid (HDY.out.keep HBL.out hb10)
             clear hb10))
        go_round
        case rel => exact ⟨3, Y, by omega, rfl, HYN, HDZ⟩
        case measure => simp [intOf]
      · have c0 : wr.cell? ⟨gr, 12, none⟩ = some (.int .i64 2) := hblk.cell _
        have c1 : wr.cell? ⟨gr, 13, none⟩ = some (.int .u32 188) := hblk.cell _
        have c2 : wr.cell? ⟨gr, 14, none⟩ = some (.int .u32 16909060) := hblk.cell _
        have c3 : wr.cell? ⟨gr, 15, none⟩ = some (.slice none 0 0) := hblk.cell _
        have HDO := Lib.hid (do_at (n := 3) (N := 192) hX.out rfl 2 16909060 188 none 0 0 [] (by omega) (by omega) (by first | rfl | rw [rowL_len]) (by omega) (fun x h => by cases h) (wr.alloc (.cells #[.int .i64 2, .int .u32 188, .int .u32 16909060, .slice none 0 0] 33)) HBL.out (hD.out.keep HBL.out (hb1 _)) (fun h => absurd h (by simp [ub])))
        clear hblk hb1
        go_wp2_with (first
          | (go_at_call 11
             refine HDO.out.mono ?_
             rintro e w9 ⟨rfl, Y, hYn, hDY⟩
             have HYN := Lib.hid hYn
             have HDY := Lib.hid hDY
             clear hYn hDY)
          | (go_at_call 12
             refine (alike_at (n := 3) (N := 192) HYN.out rfl w9 HBL.out HDY.out).mono ?_
             rintro e w10 ⟨rfl, hb10⟩
             have HDZ := Lib.hid (HDY.out.keep HBL.out hb10)
             clear hb10))
        go_round
        case rel => exact ⟨4, Y, by omega, rfl, HYN, HDZ⟩
        case measure => simp [intOf]
      · have c0 : wr.cell? ⟨gr, 16, none⟩ = some (.int .i64 2) := hblk.cell _
        have c1 : wr.cell? ⟨gr, 17, none⟩ = some (.int .u32 189) := hblk.cell _
        have c2 : wr.cell? ⟨gr, 18, none⟩ = some (.int .u32 1) := hblk.cell _
        have c3 : wr.cell? ⟨gr, 19, none⟩ = some (.slice none 0 0) := hblk.cell _
        have HDO := Lib.hid (do_at (n := 3) (N := 192) hX.out rfl 2 1 189 none 0 0 [] (by omega) (by omega) (by first | rfl | rw [rowL_len]) (by omega) (fun x h => by cases h) (wr.alloc (.cells #[.int .i64 2, .int .u32 189, .int .u32 1, .slice none 0 0] 33)) HBL.out (hD.out.keep HBL.out (hb1 _)) (fun h => absurd h (by simp [ub])))
        clear hblk hb1
        go_wp2_with (first
          | (go_at_call 11
             refine HDO.out.mono ?_
             rintro e w9 ⟨rfl, Y, hYn, hDY⟩
             have HYN := Lib.hid hYn
             have HDY := Lib.hid hDY
             clear hYn hDY)
          | (go_at_call 12
             refine (alike_at (n := 3) (N := 192) HYN.out rfl w9 HBL.out HDY.out).mono ?_
             rintro e w10 ⟨rfl, hb10⟩
             have HDZ := Lib.hid (HDY.out.keep HBL.out hb10)
             clear hb10))
        go_round
        case rel => exact ⟨5, Y, by omega, rfl, HYN, HDZ⟩
        case measure => simp [intOf]
      · have c0 : wr.cell? ⟨gr, 20, none⟩ = some (.int .i64 2) := hblk.cell _
        have c1 : wr.cell? ⟨gr, 21, none⟩ = some (.int .u32 4294967295) := hblk.cell _
        have c2 : wr.cell? ⟨gr, 22, none⟩ = some (.int .u32 1) := hblk.cell _
        have c3 : wr.cell? ⟨gr, 23, none⟩ = some (.slice none 0 0) := hblk.cell _
        have HDO := Lib.hid (do_at (n := 3) (N := 192) hX.out rfl 2 1 4294967295 none 0 0 [] (by omega) (by omega) (by first | rfl | rw [rowL_len]) (by omega) (fun x h => by cases h) (wr.alloc (.cells #[.int .i64 2, .int .u32 4294967295, .int .u32 1, .slice none 0 0] 33)) HBL.out (hD.out.keep HBL.out (hb1 _)) (fun h => absurd h (by simp [ub])))
        clear hblk hb1
        go_wp2_with (first
          | (go_at_call 11
             refine HDO.out.mono ?_
             rintro e w9 ⟨rfl, Y, hYn, hDY⟩
             have HYN := Lib.hid hYn
             have HDY := Lib.hid hDY
             clear hYn hDY)
          | (go_at_call 12
             refine (alike_at (n := 3) (N := 192) HYN.out rfl w9 HBL.out HDY.out).mono ?_
             rintro e w10 ⟨rfl, hb10⟩
             have HDZ := Lib.hid (HDY.out.keep HBL.out hb10)
             clear hb10))
        go_round
        case rel => exact ⟨6, Y, by omega, rfl, HYN, HDZ⟩
        case measure => simp [intOf]
      · have c0 : wr.cell? ⟨gr, 24, none⟩ = some (.int .i64 2) := hblk.cell _
        have c1 : wr.cell? ⟨gr, 25, none⟩ = some (.int .u32 126) := hblk.cell _
        have c2 : wr.cell? ⟨gr, 26, none⟩ = some (.int .u32 2864434397) := hblk.cell _
        have c3 : wr.cell? ⟨gr, 27, none⟩ = some (.slice none 0 0) := hblk.cell _
        have HDO := Lib.hid (do_at (n := 3) (N := 192) hX.out rfl 2 2864434397 126 none 0 0 [] (by omega) (by omega) (by first | rfl | rw [rowL_len]) (by omega) (fun x h => by cases h) (wr.alloc (.cells #[.int .i64 2, .int .u32 126, .int .u32 2864434397, .slice none 0 0] 33)) HBL.out (hD.out.keep HBL.out (hb1 _)) (fun h => absurd h (by simp [ub])))
        clear hblk hb1
        go_wp2_with (first
          | (go_at_call 11
             refine HDO.out.mono ?_
             rintro e w9 ⟨rfl, Y, hYn, hDY⟩
             have HYN := Lib.hid hYn
             have HDY := Lib.hid hDY
             clear hYn hDY)
          | (go_at_call 12
             refine (alike_at (n := 3) (N := 192) HYN.out rfl w9 HBL.out HDY.out).mono ?_
             rintro e w10 ⟨rfl, hb10⟩
             have HDZ := Lib.hid (HDY.out.keep HBL.out hb10)
             clear hb10))
        go_round
        case rel => exact ⟨7, Y, by omega, rfl, HYN, HDZ⟩
        case measure => simp [intOf]
      · have c0 : wr.cell? ⟨gr, 28, none⟩ = some (.int .i64 3) := hblk.cell _
        have c1 : wr.cell? ⟨gr, 29, none⟩ = some (.int .u32 2) := hblk.cell _
        have c2 : wr.cell? ⟨gr, 30, none⟩ = some (.int .u32 0) := hblk.cell _
        have c3 : wr.cell? ⟨gr, 31, none⟩ = some (.slice (some ⟨g7, 0, none⟩) 64 64) := hblk.cell _
        have HDO := Lib.hid (do_at (n := 3) (N := 192) hX.out rfl 3 0 2 (some ⟨g7, 0, none⟩) 64 64 (rowL (mkF 7) 64) (by omega) (by omega) (by first | rfl | rw [rowL_len]) (by omega) (rowL_mem fun j _ => mkF_bd 7 j) (wr.alloc (.cells #[.int .i64 3, .int .u32 2, .int .u32 0, .slice (some ⟨g7, 0, none⟩) 64 64] 33)) HBL.out (hD.out.keep HBL.out (hb1 _)) (HR7.out _ ((hD.out.keep HBL.out (hb1 _)))))
        clear hblk hb1
        go_wp2_with (first
          | (go_at_call 11
             refine HDO.out.mono ?_
             rintro e w9 ⟨rfl, Y, hYn, hDY⟩
             have HYN := Lib.hid hYn
             have HDY := Lib.hid hDY
             clear hYn hDY)
          | (go_at_call 12
             refine (alike_at (n := 3) (N := 192) HYN.out rfl w9 HBL.out HDY.out).mono ?_
             rintro e w10 ⟨rfl, hb10⟩
             have HDZ := Lib.hid (HDY.out.keep HBL.out hb10)
             clear hb10))
        go_round
        case rel => exact ⟨8, Y, by omega, rfl, HYN, HDZ⟩
        case measure => simp [intOf]
      · have c0 : wr.cell? ⟨gr, 32, none⟩ = some (.int .i64 3) := hblk.cell _
        have c1 : wr.cell? ⟨gr, 33, none⟩ = some (.int .u32 3) := hblk.cell _
        have c2 : wr.cell? ⟨gr, 34, none⟩ = some (.int .u32 0) := hblk.cell _
        have c3 : wr.cell? ⟨gr, 35, none⟩ = some (.slice (some ⟨g9, 0, none⟩) 64 64) := hblk.cell _
        have HDO := Lib.hid (do_at (n := 3) (N := 192) hX.out rfl 3 0 3 (some ⟨g9, 0, none⟩) 64 64 (rowL (mkF 9) 64) (by omega) (by omega) (by first | rfl | rw [rowL_len]) (by omega) (rowL_mem fun j _ => mkF_bd 9 j) (wr.alloc (.cells #[.int .i64 3, .int .u32 3, .int .u32 0, .slice (some ⟨g9, 0, none⟩) 64 64] 33)) HBL.out (hD.out.keep HBL.out (hb1 _)) (HR9.out _ ((hD.out.keep HBL.out (hb1 _)))))
        clear hblk hb1
        go_wp2_with (first
          | (go_at_call 11
             refine HDO.out.mono ?_
             rintro e w9 ⟨rfl, Y, hYn, hDY⟩
             have HYN := Lib.hid hYn
             have HDY := Lib.hid hDY
             clear hYn hDY)
          | (go_at_call 12
             refine (alike_at (n := 3) (N := 192) HYN.out rfl w9 HBL.out HDY.out).mono ?_
             rintro e w10 ⟨rfl, hb10⟩
             have HDZ := Lib.hid (HDY.out.keep HBL.out hb10)
             clear hb10))
        go_round
        case rel => exact ⟨9, Y, by omega, rfl, HYN, HDZ⟩
        case measure => simp [intOf]
      · have c0 : wr.cell? ⟨gr, 36, none⟩ = some (.int .i64 3) := hblk.cell _
        have c1 : wr.cell? ⟨gr, 37, none⟩ = some (.int .u32 1) := hblk.cell _
        have c2 : wr.cell? ⟨gr, 38, none⟩ = some (.int .u32 0) := hblk.cell _
        have c3 : wr.cell? ⟨gr, 39, none⟩ = some (.slice (some ⟨g11, 0, none⟩) 63 63) := hblk.cell _
        have HDO := Lib.hid (do_at (n := 3) (N := 192) hX.out rfl 3 0 1 (some ⟨g11, 0, none⟩) 63 63 (rowL (mkF 11) 63) (by omega) (by omega) (by first | rfl | rw [rowL_len]) (by omega) (rowL_mem fun j _ => mkF_bd 11 j) (wr.alloc (.cells #[.int .i64 3, .int .u32 1, .int .u32 0, .slice (some ⟨g11, 0, none⟩) 63 63] 33)) HBL.out (hD.out.keep HBL.out (hb1 _)) (HR11.out _ ((hD.out.keep HBL.out (hb1 _)))))
        clear hblk hb1
        go_wp2_with (first
          | (go_at_call 11
             refine HDO.out.mono ?_
             rintro e w9 ⟨rfl, Y, hYn, hDY⟩
             have HYN := Lib.hid hYn
             have HDY := Lib.hid hDY
             clear hYn hDY)
          | (go_at_call 12
             refine (alike_at (n := 3) (N := 192) HYN.out rfl w9 HBL.out HDY.out).mono ?_
             rintro e w10 ⟨rfl, hb10⟩
             have HDZ := Lib.hid (HDY.out.keep HBL.out hb10)
             clear hb10))
        go_round
        case rel => exact ⟨10, Y, by omega, rfl, HYN, HDZ⟩
        case measure => simp [intOf]
      · have c0 : wr.cell? ⟨gr, 40, none⟩ = some (.int .i64 5) := hblk.cell _
        have c1 : wr.cell? ⟨gr, 41, none⟩ = some (.int .u32 0) := hblk.cell _
        have c2 : wr.cell? ⟨gr, 42, none⟩ = some (.int .u32 0) := hblk.cell _
        have c3 : wr.cell? ⟨gr, 43, none⟩ = some (.slice none 0 0) := hblk.cell _
        have HDO := Lib.hid (do_at (n := 3) (N := 192) hX.out rfl 5 0 0 none 0 0 [] (by omega) (by omega) (by first | rfl | rw [rowL_len]) (by omega) (fun x h => by cases h) (wr.alloc (.cells #[.int .i64 5, .int .u32 0, .int .u32 0, .slice none 0 0] 33)) HBL.out (hD.out.keep HBL.out (hb1 _)) (fun h => absurd h (by simp [ub])))
        clear hblk hb1
        go_wp2_with (first
          | (go_at_call 11
             refine HDO.out.mono ?_
             rintro e w9 ⟨rfl, Y, hYn, hDY⟩
             have HYN := Lib.hid hYn
             have HDY := Lib.hid hDY
             clear hYn hDY)
          | (go_at_call 12
             refine (alike_at (n := 3) (N := 192) HYN.out rfl w9 HBL.out HDY.out).mono ?_
             rintro e w10 ⟨rfl, hb10⟩
             have HDZ := Lib.hid (HDY.out.keep HBL.out hb10)
             clear hb10))
        go_round
        case rel => exact ⟨11, Y, by omega, rfl, HYN, HDZ⟩
        case measure => simp [intOf]
      · have c0 : wr.cell? ⟨gr, 44, none⟩ = some (.int .i64 4) := hblk.cell _
        have c1 : wr.cell? ⟨gr, 45, none⟩ = some (.int .u32 0) := hblk.cell _
        have c2 : wr.cell? ⟨gr, 46, none⟩ = some (.int .u32 0) := hblk.cell _
        have c3 : wr.cell? ⟨gr, 47, none⟩ = some (.slice (some ⟨g14, 0, none⟩) 3 3) := hblk.cell _
        have HDO := Lib.hid (do_at (n := 3) (N := 192) hX.out rfl 4 0 0 (some ⟨g14, 0, none⟩) 3 3 (rowL (mkF 14) 3) (by omega) (by omega) (by first | rfl | rw [rowL_len]) (by omega) (rowL_mem fun j _ => mkF_bd 14 j) (wr.alloc (.cells #[.int .i64 4, .int .u32 0, .int .u32 0, .slice (some ⟨g14, 0, none⟩) 3 3] 33)) HBL.out (hD.out.keep HBL.out (hb1 _)) (HR14.out _ ((hD.out.keep HBL.out (hb1 _)))))
        clear hblk hb1
        go_wp2_with (first
          | (go_at_call 11
             refine HDO.out.mono ?_
             rintro e w9 ⟨rfl, Y, hYn, hDY⟩
             have HYN := Lib.hid hYn
             have HDY := Lib.hid hDY
             clear hYn hDY)
          | (go_at_call 12
             refine (alike_at (n := 3) (N := 192) HYN.out rfl w9 HBL.out HDY.out).mono ?_
             rintro e w10 ⟨rfl, hb10⟩
             have HDZ := Lib.hid (HDY.out.keep HBL.out hb10)
             clear hb10))
        go_round
        case rel => exact ⟨12, Y, by omega, rfl, HYN, HDZ⟩
        case measure => simp [intOf]
      · have c0 : wr.cell? ⟨gr, 48, none⟩ = some (.int .i64 4) := hblk.cell _
        have c1 : wr.cell? ⟨gr, 49, none⟩ = some (.int .u32 0) := hblk.cell _
        have c2 : wr.cell? ⟨gr, 50, none⟩ = some (.int .u32 0) := hblk.cell _
        have c3 : wr.cell? ⟨gr, 51, none⟩ = some (.slice (some ⟨g16, 0, none⟩) 193 193) := hblk.cell _
        have HDO := Lib.hid (do_at (n := 3) (N := 192) hX.out rfl 4 0 0 (some ⟨g16, 0, none⟩) 193 193 (rowL (mkF 16) 193) (by omega) (by omega) (by first | rfl | rw [rowL_len]) (by omega) (rowL_mem fun j _ => mkF_bd 16 j) (wr.alloc (.cells #[.int .i64 4, .int .u32 0, .int .u32 0, .slice (some ⟨g16, 0, none⟩) 193 193] 33)) HBL.out (hD.out.keep HBL.out (hb1 _)) (HR16.out _ ((hD.out.keep HBL.out (hb1 _)))))
        clear hblk hb1
        go_wp2_with (first
          | (go_at_call 11
             refine HDO.out.mono ?_
             rintro e w9 ⟨rfl, Y, hYn, hDY⟩
             have HYN := Lib.hid hYn
             have HDY := Lib.hid hDY
             clear hYn hDY)
          | (go_at_call 12
             refine (alike_at (n := 3) (N := 192) HYN.out rfl w9 HBL.out HDY.out).mono ?_
             rintro e w10 ⟨rfl, hb10⟩
             have HDZ := Lib.hid (HDY.out.keep HBL.out hb10)
             clear hb10))
        go_round
        case rel => exact ⟨13, Y, by omega, rfl, HYN, HDZ⟩
        case measure => simp [intOf]
      · have c0 : wr.cell? ⟨gr, 52, none⟩ = some (.int .i64 6) := hblk.cell _
        have c1 : wr.cell? ⟨gr, 53, none⟩ = some (.int .u32 0) := hblk.cell _
        have c2 : wr.cell? ⟨gr, 54, none⟩ = some (.int .u32 0) := hblk.cell _
        have c3 : wr.cell? ⟨gr, 55, none⟩ = some (.slice none 0 0) := hblk.cell _
        have HDO := Lib.hid (do_at (n := 3) (N := 192) hX.out rfl 6 0 0 none 0 0 [] (by omega) (by omega) (by first | rfl | rw [rowL_len]) (by omega) (fun x h => by cases h) (wr.alloc (.cells #[.int .i64 6, .int .u32 0, .int .u32 0, .slice none 0 0] 33)) HBL.out (hD.out.keep HBL.out (hb1 _)) (fun h => absurd h (by simp [ub])))
        clear hblk hb1
        go_wp2_with (first
          | (go_at_call 11
             refine HDO.out.mono ?_
             rintro e w9 ⟨rfl, Y, hYn, hDY⟩
             have HYN := Lib.hid hYn
             have HDY := Lib.hid hDY
             clear hYn hDY)
          | (go_at_call 12
             refine (alike_at (n := 3) (N := 192) HYN.out rfl w9 HBL.out HDY.out).mono ?_
             rintro e w10 ⟨rfl, hb10⟩
             have HDZ := Lib.hid (HDY.out.keep HBL.out hb10)
             clear hb10))
        go_round
        case rel => exact ⟨14, Y, by omega, rfl, HYN, HDZ⟩
        case measure => simp [intOf]
      · have c0 : wr.cell? ⟨gr, 56, none⟩ = some (.int .i64 6) := hblk.cell _
        have c1 : wr.cell? ⟨gr, 57, none⟩ = some (.int .u32 0) := hblk.cell _
        have c2 : wr.cell? ⟨gr, 58, none⟩ = some (.int .u32 0) := hblk.cell _
        have c3 : wr.cell? ⟨gr, 59, none⟩ = some (.slice none 0 0) := hblk.cell _
        have HDO := Lib.hid (do_at (n := 3) (N := 192) hX.out rfl 6 0 0 none 0 0 [] (by omega) (by omega) (by first | rfl | rw [rowL_len]) (by omega) (fun x h => by cases h) (wr.alloc (.cells #[.int .i64 6, .int .u32 0, .int .u32 0, .slice none 0 0] 33)) HBL.out (hD.out.keep HBL.out (hb1 _)) (fun h => absurd h (by simp [ub])))
        clear hblk hb1
        go_wp2_with (first
          | (go_at_call 11
             refine HDO.out.mono ?_
             rintro e w9 ⟨rfl, Y, hYn, hDY⟩
             have HYN := Lib.hid hYn
             have HDY := Lib.hid hDY
             clear hYn hDY)
          | (go_at_call 12
             refine (alike_at (n := 3) (N := 192) HYN.out rfl w9 HBL.out HDY.out).mono ?_
             rintro e w10 ⟨rfl, hb10⟩
             have HDZ := Lib.hid (HDY.out.keep HBL.out hb10)
             clear hb10))
        go_round
        case rel => exact ⟨15, Y, by omega, rfl, HYN, HDZ⟩
        case measure => simp [intOf]
      · have c0 : wr.cell? ⟨gr, 60, none⟩ = some (.int .i64 1) := hblk.cell _
        have c1 : wr.cell? ⟨gr, 61, none⟩ = some (.int .u32 1) := hblk.cell _
        have c2 : wr.cell? ⟨gr, 62, none⟩ = some (.int .u32 1) := hblk.cell _
        have c3 : wr.cell? ⟨gr, 63, none⟩ = some (.slice none 0 0) := hblk.cell _
        have HDO := Lib.hid (do_at (n := 3) (N := 192) hX.out rfl 1 1 1 none 0 0 [] (by omega) (by omega) (by first | rfl | rw [rowL_len]) (by omega) (fun x h => by cases h) (wr.alloc (.cells #[.int .i64 1, .int .u32 1, .int .u32 1, .slice none 0 0] 33)) HBL.out (hD.out.keep HBL.out (hb1 _)) (fun h => absurd h (by simp [ub])))
        clear hblk hb1
        go_wp2_with (first
          | (go_at_call 11
             refine HDO.out.mono ?_
             rintro e w9 ⟨rfl, Y, hYn, hDY⟩
             have HYN := Lib.hid hYn
             have HDY := Lib.hid hDY
             clear hYn hDY)
          | (go_at_call 12
             refine (alike_at (n := 3) (N := 192) HYN.out rfl w9 HBL.out HDY.out).mono ?_
             rintro e w10 ⟨rfl, hb10⟩
             have HDZ := Lib.hid (HDY.out.keep HBL.out hb10)
             clear hb10))
        go_round
        case rel => exact ⟨16, Y, by omega, rfl, HYN, HDZ⟩
        case measure => simp [intOf]
      · clear hblk hb1
        have hM := hD.out.d.m
        have hzr := hD.out.size HBL.out
        have hpg := page_ok 0 (by rw [hX.out]; omega) wr hM
        have HPG := Lib.hid hpg
        have HPN := Lib.hid (fun W (hb : Below wr.heap.size wr W) => page_no (X := X) 3 (by simp [Rm.pB, hX.out]) W (hM.below hb))
        have HPP := Lib.hid (fun W g (hb : Below wr.heap.size wr W) (hB : IsB W g 64 (fun j => X.b (0 * 64 + j))) (hg : wr.heap.size ≤ g) => putPage_any (-1) (some ⟨g, 0, none⟩) 64 64 (rowL (fun j => X.b (0 * 64 + j)) 64) (by rw [rowL_len]) (by omega) (rowL_mem fun j hj => hM.bd _ (by rw [hX.out]; omega)) W (hM.below hb) (hB.rdM (hM.off hg).1.symm (hM.off hg).2.2.1.symm (hM.off hg).2.2.2.2.symm))
        have e1 : X.pgV (-1) 64 = false := by simp [Rm.pgV, Rm.pB]
        rw [e1] at HPP
        unfold NewB at HPG
        unfold Left at HPP
        clear hM hpg e1
        go_wp2_with (first
          | (go_at_call 13; refine HPG.out.mono ?_; rintro e w2 ⟨g2, rfl, hg2, hB2, hb2⟩
             have HB2 := Lib.hid (And.intro hg2 (And.intro hB2 hb2))
             clear HPG hg2 hB2 hb2)
          | (go_at_call 13; refine (HPN.out _ HB2.out.2.2).mono ?_; rintro e w' ⟨rfl, rfl⟩)
          | (go_at_call 14; refine (HPP.out _ g2 HB2.out.2.2 HB2.out.2.1 HB2.out.1).mono ?_; rintro e w3 ⟨rfl, hm3, ha3⟩
             have HA3 := Lib.hid ha3
             clear hm3 ha3)
          | (go_at_call 15; refine (known_any _).mono ?_; rintro e w4 ⟨rfl, hb4⟩; have HB4 := Lib.hid hb4; clear hb4))
        go_ret
        refine ⟨rfl, ?_⟩
        have hf := hD.out.d.f
        have h2 : Below B W2 w2 := hD.out.d.b.trans (HB2.out.2.2.mono hzr)
        have h3 : Below B W2 w3 := HA3.out.below hf.1 hf.2.2.1 hf.2.2.2.2 h2 (by have := HB2.out.2.2.size; omega)
        have h4 := HW.out.trans (h3.trans (HB4.out.mono (by have := HB2.out.2.2.size; have := HA3.out.size; omega)))
        rw [HG.out]; exact h4
end Go.Proofs.Ytgohmchodgoceaa

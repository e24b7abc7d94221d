/-
  tlb.Fill, Drop: A CONTRACT EACH.
-/
import Derived.Test.YtblfplhiamcpoaaBg
import Derived.StillTailTactics
namespace Go.Proofs.Ytblfplhiamcpoaa
open Go.RowKit
set_option linter.unusedSimpArgs false
set_option linter.unusedVariables false

/-- four cells written one by one -/
theorem set4 (w : World) (g o : Nat) (a b c d : Value) : (((w.setCell ⟨g, o, none⟩ a).setCell ⟨g, o + 1, none⟩ b).setCell ⟨g, o + 2, none⟩ c).setCell ⟨g, o + 3, none⟩ d = w.setCells g o [a, b, c, d] := by
  simp only [World.setCells, Nat.add_assoc]
theorem Try.info_ent9 : (Try.prog.info? 35).map (·.size) = some 4 := by kernel_rfl
theorem ag_one (v : Bool) (n p b : Int) : #[Value.bool v, .int .u32 n, .int .u32 p, .int .u32 b].all (·.oneCell') = true := by simp [Value.oneCell']
section
variable {g : Nat} {S : Nat → En}
/-- what a call leaves that turns the buffer -/
def Lf (g : Nat) (Y : Nat → En) (r0 : Ending) (w : World) (r : Ending) (w' : World) : Prop :=
  r = r0 ∧ IsE w' g 0 Y ∧ Turn g g w w'
set_option maxRecDepth 100000 in
theorem fill_any (e : En) (hn : 0 ≤ e.n ∧ e.n < 4294967296) (hp : 0 ≤ e.p ∧ e.p < 4294967296) (hb : 0 ≤ e.b ∧ e.b < 4294967296) (w : World) (hE : IsE w g 0 S) :
    Calls Try.prog 12 #[.pointer (some ⟨g, 0, none⟩), e.ag] w (Lf g (fillS S e) (.returned (.bool e.v)) w) := by
  have hj := sl_lt e.n
  have hsl := slot_any e.n hn.1 hn.2
  unfold Lf fillS En.ag
  have hok : e.v = true → e.Ok := fun h => ⟨hn, hp, hb, fun h' => by rw [h] at h'; cases h'⟩
  have hset := fun (W : World) (hW : IsE W g 0 S) (h : e.v = true) => hW.set (sl e.n) hj e (hok h)
  have hcs : e.cs = [.bool e.v, .int .u32 e.n, .int .u32 e.p, .int .u32 e.b] := rfl
  rw [hcs] at hset
  have hz := hE.z
  obtain ⟨n0, n1⟩ := hn
  generalize hY : upd S (sl e.n) e = Y at *
  generalize sl e.n = j at *
  generalize e.v = v at *
  generalize e.n = n at *
  generalize e.p = p at *
  generalize e.b = b at *
  have hc := fun i => (Blk.new w 35 #[.bool v, .int .u32 n, .int .u32 p, .int .u32 b]).cell i
  have hw := (Below.refl w.heap.size w).alloc (Nat.le_refl _) (.cells #[.bool v, .int .u32 n, .int .u32 p, .int .u32 b] 35)
  have d0 := hc 0
  have d1 := hc 1
  have d2 := hc 2
  have d3 := hc 3
  simp only [List.getElem?_toArray, List.getElem?_cons_zero, List.getElem?_cons_succ] at d0 d1 d2 d3
  have HE := Lib.hid (hE.below hw)
  have HT := Lib.hid (Turn.of_below (g := g) (h := g) hw)
  have HSET := Lib.hid hset
  have HS := Lib.hid hsl
  clear hset hsl hc hw hE hY hok hcs hp hb
  cases v
  · rw [if_neg Bool.false_ne_true]
    go_enter Try.func12, Try.ntmps12
    go_wp2_with fail
    go_ret
    exact ⟨rfl, HE.out, HT.out⟩
  · rw [if_pos rfl]
    have hj0 : (0 : Int) ≤ (j : Int) := by omega
    have hj1 : (j : Int) < 16 := by omega
    go_enter Try.func12, Try.ntmps12
    go_wp2_with fail
    generalize w.alloc (.cells #[.bool true, .int .u32 n, .int .u32 p, .int .u32 b] 35) = W at *
    generalize hX : w.heap.size = X at *
    have HX := Lib.hid hX
    clear hX
    go_still_tail 8, (by kernel_rfl)
    still_call ((HS.out _).mono fun _ _ h => ⟨h.1, h.2.symm⟩)
    repeat still_step
    refine wpStill_nil ?_
    have HE2 : Hid (IsE W.drew g 0 S) := Lib.hid (HE.out.drewN 1)
    have HT2 : Hid (Turn g g w W.drew) := Lib.hid (HT.out.trans (Turn.of_below (Below.refl _ _).drew))
    have hth := HE2.out.there j hj
    rw [Nat.zero_add] at hth
    have HTH := Lib.hid hth
    clear hth d0 d1 d2 d3
    change wpList _ _ _ _ _ W.drew
    generalize W.drew = W2 at *
    go_wp2_with (refine wpList_store_mid rfl 35 _ _ rfl g (j * 4) #[.bool true, .int .u32 n, .int .u32 p, .int .u32 b] (by rfl) (by rfl) HTH.out Try.info_ent9 (ag_one _ _ _ _) ?_)
    go_ret
    refine ⟨rfl, ?_, HT2.out.trans (Turn.setsG _ _ (Turn.refl _ _ _))⟩
    have := HSET.out _ HE2.out trivial
    rw [Nat.zero_add] at this
    exact this
set_option maxRecDepth 100000 in
theorem drop_any (V : Int) (h0 : 0 ≤ V) (h1 : V < 4294967296) (w : World) (hE : IsE w g 0 S) :
    Calls Try.prog 15 #[.pointer (some ⟨g, 0, none⟩), .int .u32 V] w (Lf g (dropS S V) (.returned (.tuple #[])) w) := by
  have hj := sl_lt (V / 64)
  have c0 := hE.c0 _ hj
  have c1 := hE.c1 _ hj
  have c2 := hE.c2 _ hj
  have c3 := hE.c3 _ hj
  have hz := hE.z
  have hpg := page_any V h0 h1
  have hsl := slot_any (V / 64) (by omega) (by omega)
  simp only [Nat.zero_add] at c0 c1 c2 c3
  have hset := fun (W : World) (hW : IsE W g 0 S) => hW.set (sl (V / 64)) hj en0 en0_ok
  have hth := fun (W : World) (hW : IsE W g 0 S) => hW.there (sl (V / 64)) hj
  have hcs : en0.cs = [.bool false, .int .u32 0, .int .u32 0, .int .u32 0] := rfl
  rw [hcs] at hset
  unfold Lf dropS
  have hld := leads_any (S (sl (V / 64))) V h0 h1
  have hL : ldB (S (sl (V / 64))) V = decide ((S (sl (V / 64))).v = true ∧ (S (sl (V / 64))).n = V / 64) := by
    unfold ldB; rw [Bool.eq_iff_iff]; simp
  rw [hL] at hld
  unfold En.ag at hld
  generalize hY : (if (S (sl (V / 64))).v = true ∧ (S (sl (V / 64))).n = V / 64 then upd S (sl (V / 64)) en0 else S) = Y at *
  have hYt : ((S (sl (V / 64))).v = true ∧ (S (sl (V / 64))).n = V / 64) → upd S (sl (V / 64)) en0 = Y := fun h => by rw [← hY, if_pos h]
  have hYf : ¬ ((S (sl (V / 64))).v = true ∧ (S (sl (V / 64))).n = V / 64) → S = Y := fun h => by rw [← hY, if_neg h]
  generalize sl (V / 64) = j at *
  generalize (S j).v = v at *
  generalize (S j).n = n at *
  generalize (S j).p = p at *
  generalize (S j).b = b at *
  have HP := Lib.hid hpg
  have HS := Lib.hid hsl
  have HE := Lib.hid hE
  have HSET := Lib.hid hset
  have HTH := Lib.hid hth
  have hj0 : (0 : Int) ≤ (j : Int) := by omega
  have hj1 : (j : Int) < 16 := by omega
  clear hpg hsl hset hth hcs hE hL hY
  by_cases hl : v = true ∧ n = V / 64
  · rw [decide_eq_true hl] at hld
    have HY := Lib.hid (hYt hl)
    have HL := Lib.hid hld
    clear hYt hYf hl hld
    generalize V / 64 = Q at *
    go_enter Try.func15, Try.ntmps15
    go_wp2_with (first
      | (go_at_call 23; refine (HP.out _).mono ?_; rintro e w' ⟨rfl, rfl⟩)
      | (go_at_call 21; refine (HS.out _).mono ?_; rintro e w' ⟨rfl, rfl⟩)
      | (go_at_call 24
         refine (HL.out _).mono ?_
         rintro r w2 ⟨rfl, hb2⟩
         have HE2 := Lib.hid (HE.out.below hb2)
         have HT2 := Lib.hid (Turn.of_below (g := g) (h := g) hb2)
         have hth2 := HTH.out _ HE2.out
         rw [Nat.zero_add] at hth2
         have HTH2 := Lib.hid hth2
         clear hb2 hth2 c0 c1 c2 c3)
      | (refine wpList_store_mid rfl 35 _ _ rfl g (j * 4) #[.bool false, .int .u32 0, .int .u32 0, .int .u32 0] (by rfl) (by rfl) HTH2.out Try.info_ent9 (ag_one _ _ _ _) ?_))

    refine bodyPost_end (v := .tuple #[]) (by simp [results, Try.results15, go_sem]) rfl ?_
    refine ⟨rfl, ?_, HT2.out.trans (Turn.setsG _ _ (Turn.refl _ _ _))⟩
    have := HSET.out _ HE2.out
    rw [Nat.zero_add, HY.out] at this
    exact this
  · rw [decide_eq_false hl] at hld
    have HY := Lib.hid (hYf hl)
    have HL := Lib.hid hld
    clear hYt hYf hl hld
    generalize V / 64 = Q at *
    go_enter Try.func15, Try.ntmps15
    go_wp2_with (first
      | (go_at_call 23; refine (HP.out _).mono ?_; rintro e w' ⟨rfl, rfl⟩)
      | (go_at_call 21; refine (HS.out _).mono ?_; rintro e w' ⟨rfl, rfl⟩)
      | (go_at_call 24
         refine (HL.out _).mono ?_
         rintro r w2 ⟨rfl, hb2⟩
         have HE2 := Lib.hid (HE.out.below hb2)
         have HT2 := Lib.hid (Turn.of_below (g := g) (h := g) hb2)
         clear hb2 c0 c1 c2 c3))
    refine bodyPost_end (v := .tuple #[]) (by simp [results, Try.results15, go_sem]) rfl ?_
    exact ⟨rfl, by rw [← HY.out]; exact HE2.out, HT2.out⟩
end
end Go.Proofs.Ytblfplhiamcpoaa

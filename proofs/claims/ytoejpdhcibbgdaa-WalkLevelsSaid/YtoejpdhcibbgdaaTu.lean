/-
  nested: Unmap: A CONTRACT.
-/
import Derived.Test.YtoejpdhcibbgdaaTq
namespace Go.Proofs.Ytoejpdhcibbgdaa
open Go.RowKit
set_option linter.unusedSimpArgs false
set_option linter.unusedVariables false

/-- what Unmap leaves -/
def unE (T : Ta) (k : Int) : Int := if T.mB k = true then 0 else 22
noncomputable def unS (S : Po) (T : Ta) (k : Int) : Po := if T.mB k = true then S.giveS T.o [T.fr k.toNat] else S
def unT (T : Ta) (k : Int) : Ta := if T.mB k = true then T.put k.toNat (-1) else T
def Unmpd (S : Po) (T : Ta) (g h r : Nat) (k : Int) (w : World) (e : Ending) (w' : World) : Prop :=
  e = .returned (.int .i64 (unE T k)) ∧ IsP w' g (unS S T k) ∧ IsT w' g h r (unT T k) ∧ Turn g r w w'
theorem below_os {B : Nat} {w w1 : World} (h : Below B w w1) (hB : w.heap.size ≤ B) : Turn B B w w1 := ⟨h.os, h.tape, h.output, h.size, fun i hi _ _ => h.block i (by omega)⟩
section
variable {g h r : Nat} {S : Po} {T : Ta}
set_option maxRecDepth 100000 in
set_option maxHeartbeats 1000000 in
theorem unmap_any (k : Int) (w : World) (hP : IsP w g S) (hT : IsT w g h r T) :
    Calls Try.prog 61 #[.pointer (some ⟨h, 0, none⟩), .int .i64 k] w (Unmpd S T g h r k w) := by
  have hmm := isMapped_any k w hT
  have HP := Lib.hid hP
  have HT := Lib.hid hT
  unfold Unmpd unE unS unT
  cases hm : T.mB k
  · rw [hm] at hmm
    have HM := Lib.hid hmm
    simp only [Bool.false_eq_true, if_false]
    clear hmm hP hT hm
    go_enter Try.func61, Try.ntmps61
    go_wp2_with (go_at_call 53; refine HM.out.mono ?_; rintro e w' ⟨rfl, rfl⟩)
    go_ret
    exact ⟨rfl, HP.out, HT.out, Turn.refl _ _ _⟩
  · rw [hm] at hmm
    obtain ⟨i, rfl, hi, h0⟩ := mB_true hm
    have HM := Lib.hid hmm
    have hc0 := hT.c0
    have hc1 := hT.c1
    have hc2 := hT.c2
    have hc3 := hT.fm i hi
    rw [show pos (T.fr i) = T.fr i by unfold pos; rw [if_pos h0]] at hc3
    have hn := hT.good.n1
    have hz := hT.zh
    have hzr := hT.zr
    have hne := hT.gh.symm
    have hnr := hT.gr.symm
    have hzg := hP.z
    have HI := Lib.hid hi
    simp only [if_true, Int.toNat_natCast]
    have HG := Lib.hid (fun (W : World) (hb : Below w.heap.size w W) (hr : Rdx W g (some ⟨w.heap.size, 0, none⟩) (iv [T.fr i])) => give_any (T.o : Int) (some ⟨w.heap.size, 0, none⟩) 1 1 [T.fr i] rfl (by omega) W (hP.below hb) hr)
    unfold Gived at HG
    have HR := Lib.hid (one_rdx w.drew g hzg (T.fr i) 3)
    generalize hN : T.n = n at *
    generalize hO : (T.o : Int) = o at *
    have HN := Lib.hid hN
    generalize hX : T.fr i = x at *
    generalize S.giveS o [x] = S1 at *
    generalize S.giveV o [x] = V1 at *
    clear hmm hP hT hm h0 hN hO hX
    have hi0 : (0 : Int) ≤ (i : Int) := by omega
    have hi1 : (i : Int) < (n : Int) := by omega
    go_enter Try.func61, Try.ntmps61
    go_wp2_with (go_at_call 53; refine HM.out.mono ?_; rintro e w' ⟨rfl, rfl⟩)
    go_region_held3 (fun w' => w'.cell? ⟨h, 0, none⟩ = some (.pointer (some ⟨g, 0, none⟩)) ∧ w'.cell? ⟨h, 1, none⟩ = some (.int .i64 o) ∧ w'.cell? ⟨h, 2, none⟩ = some (.slice (some ⟨r, 0, none⟩) n n) ∧ w'.cell? ⟨r, i * 3 + 2, none⟩ = some (.int .i64 x))
      (first
        | exact ⟨hc0, hc1, hc2, hc3⟩
        | exact ⟨(((Below.refl w.heap.size w).drew.alloc (Nat.le_refl _) _).cell (p := ⟨h, 0, none⟩) hz).trans hc0, (((Below.refl w.heap.size w).drew.alloc (Nat.le_refl _) _).cell (p := ⟨h, 1, none⟩) hz).trans hc1, (((Below.refl w.heap.size w).drew.alloc (Nat.le_refl _) _).cell (p := ⟨h, 2, none⟩) hz).trans hc2, (((Below.refl w.heap.size w).drew.alloc (Nat.le_refl _) _).cell (p := ⟨r, i * 3 + 2, none⟩) hzr).trans hc3⟩
        | exact ⟨((ht1.cell (p := ⟨h, 0, none⟩) (by simp; omega) hne hne).trans (((Below.refl w.heap.size w).drew.alloc (Nat.le_refl _) _).cell (p := ⟨h, 0, none⟩) hz)).trans hc0, ((ht1.cell (p := ⟨h, 1, none⟩) (by simp; omega) hne hne).trans (((Below.refl w.heap.size w).drew.alloc (Nat.le_refl _) _).cell (p := ⟨h, 1, none⟩) hz)).trans hc1, ((ht1.cell (p := ⟨h, 2, none⟩) (by simp; omega) hne hne).trans (((Below.refl w.heap.size w).drew.alloc (Nat.le_refl _) _).cell (p := ⟨h, 2, none⟩) hz)).trans hc2, ((ht1.cell (p := ⟨r, i * 3 + 2, none⟩) (by simp; omega) hnr hnr).trans (((Below.refl w.heap.size w).drew.alloc (Nat.le_refl _) _).cell (p := ⟨r, i * 3 + 2, none⟩) hzr)).trans hc3⟩)
      ((go_at_call 63; refine (HG.out _ ((Below.refl _ _).drew.alloc (Nat.le_refl _) _) HR.out).mono ?_; rintro e w1 ⟨rfl, hp1, ht1⟩))
    have hb1 : Below w.heap.size w (w.drew.alloc (.cells #[.int .i64 x] 3)) := (Below.refl _ _).drew.alloc (Nat.le_refl _) _
    have hT1 := (HT.out.below hb1).turnP ht1
    have hU1 : Turn g g w w1 := (Turn.of_below hb1).trans ht1
    have d2 := hT1.c2
    have d3 := hT1.mp i (by rw [HN.out]; exact HI.out)
    have d4 := hT1.gd i (by rw [HN.out]; exact HI.out)
    have d5 := hT1.fm i (by rw [HN.out]; exact HI.out)
    have f1 := hT1.fz (i * 3)
    have f2 := hT1.fz (i * 3 + 1)
    have f3 := hT1.fz (i * 3 + 2)
    rw [HN.out] at d2
    have HP1 := Lib.hid hp1
    have HT1 := Lib.hid hT1
    have HU1 := Lib.hid hU1
    clear hp1 hT1 ht1 hU1 hb1
    generalize neB (T.fr i) = x1 at *
    generalize T.gd i = x2 at *
    generalize pos (T.fr i) = x3 at *
    go_wp2
    go_ret
    refine ⟨rfl, ?_, ?_, ?_⟩
    · exact HP1.out.keep ((Below.heap_setCell _ _ _ _ HT1.out.gr).trans ((Below.heap_setCell _ _ _ _ HT1.out.gr).trans (Below.heap_setCell _ _ _ _ HT1.out.gr)))
    · have hs := HT1.out.setEntry i (by rw [HN.out]; exact HI.out) (-1) (.inl rfl)
      have e0 : neB (-1) = false := rfl
      have e1 : pos (-1) = 0 := rfl
      unfold enC at hs
      rw [e0, e1] at hs
      simpa only [World.setCells] using hs
    · exact Turn.trans_wide HU1.out ((((Turn.refl _ _ _).setH _ _).setH _ _).setH _ _)
end
end Go.Proofs.Ytoejpdhcibbgdaa

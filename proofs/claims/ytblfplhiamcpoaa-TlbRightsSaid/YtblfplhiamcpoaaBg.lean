/-
  tlb.Find: A CONTRACT.
-/
import Derived.Test.YtblfplhiamcpoaaBf
import Derived.Deep.RegionHeld3
import Derived.Deep.RegionWith
import Derived.Deep.DeepCutAuto
namespace Go.Proofs.Ytblfplhiamcpoaa
open Go.RowKit
set_option linter.unusedSimpArgs false
set_option linter.unusedVariables false

section
variable {g : Nat} {S : Nat → En}
/-- what Find leaves -/
def Fnd (e : En) (V k : Int) (s : Bool) (w : World) (r : Ending) (w' : World) : Prop :=
  r = .returned (.tuple #[.int .u32 (fV e V k s), .bool (fB e V k s)]) ∧ Below w.heap.size w w'
theorem fB_eq (e : En) (V k : Int) (s : Bool) : fB e V k s = (ldB e V && decide (nd k s ≠ 0) && decide (bits .and .u32 e.b (nd k s) = nd k s)) := rfl
set_option maxRecDepth 100000 in
set_option maxHeartbeats 2000000 in
theorem find_any (V k : Int) (h0 : 0 ≤ V) (h1 : V < 4294967296) (s : Bool) (w : World) (hE : IsE w g 0 S) :
    Calls Try.prog 13 #[.pointer (some ⟨g, 0, none⟩), .int .u32 V, .int .i64 k, .bool s] w (Fnd (S (sl (V / 64))) V k s w) := by
  have hj := sl_lt (V / 64)
  have c0 := hE.c0 _ hj
  have c1 := hE.c1 _ hj
  have c2 := hE.c2 _ hj
  have c3 := hE.c3 _ hj
  have hok := hE.ok (sl (V / 64))
  have hz := hE.z
  have hpg := page_any V h0 h1
  have hsl := slot_any (V / 64) (by omega) (by omega)
  have hnd := needed_any k s
  obtain ⟨n0, n1⟩ := nd_bd k s
  simp only [Nat.zero_add] at c0 c1 c2 c3
  unfold Fnd fV
  rw [fB_eq]
  generalize sl (V / 64) = j at *
  have hld := leads_any (S j) V h0 h1
  unfold fA En.ag at *
  generalize ldB (S j) V = L at *
  obtain ⟨b0, b1⟩ := hok.b
  obtain ⟨p0, p1⟩ := hok.p
  generalize (S j).v = v at *
  generalize (S j).n = n at *
  generalize (S j).p = p at *
  generalize (S j).b = b at *
  have HP := Lib.hid hpg
  have HS := Lib.hid hsl
  have HN := Lib.hid hnd
  have HL := Lib.hid hld
  clear hpg hsl hnd hld hok hE
  generalize nd k s = N at *
  generalize V / 64 = Q at *
  generalize hR : (L && decide (N ≠ 0) && decide (bits .and .u32 b N = N)) = R at *
  generalize hA : Value.tuple #[.int .u32 (if R = true then (p * 64 + V % 64) % 4294967296 else 0), .bool R] = A at *
  have hj0 : (0 : Int) ≤ (j : Int) := by omega
  have hj1 : (j : Int) < 16 := by omega
  go_enter Try.func13, Try.ntmps13
  go_upto_region 2 with (go_at_call 22; refine (HN.out _).mono ?_; rintro e w' ⟨rfl, rfl⟩)
  go_cut [11] from 15 to 22 (fun s wx => s = .pointer (some ⟨w.heap.size, 0, none⟩) ∧ wx = (w.alloc (.cells #[.bool v, .int .u32 n, .int .u32 p, .int .u32 b] 35)).drew)
  case first =>
    go_region_with (first
      | (go_at_call 23; refine (HP.out _).mono ?_; rintro e w' ⟨rfl, rfl⟩)
      | (go_at_call 21; refine (HS.out _).mono ?_; rintro e w' ⟨rfl, rfl⟩))
    all_goals
      go_wp2_with fail
      go_meet
      exact ⟨rfl, rfl⟩
  case rest =>
    obtain ⟨rfl, rfl⟩ := hcut
    clear HP HS HN c0 c1 c2 c3
    have hc := fun i => (Blk.new w 35 #[.bool v, .int .u32 n, .int .u32 p, .int .u32 b]).cell i
    have hb := ((Below.refl w.heap.size w).alloc (Nat.le_refl _) (.cells #[.bool v, .int .u32 n, .int .u32 p, .int .u32 b] 35)).drew
    have e1 : ∀ (o : Obj) (x : Addr), (w.alloc o).drew.cell? x = (w.alloc o).cell? x := fun _ _ => rfl
    have d0 := (e1 _ _).trans (hc 0)
    have d1 := (e1 _ _).trans (hc 1)
    have d2 := (e1 _ _).trans (hc 2)
    have d3 := (e1 _ _).trans (hc 3)
    simp only [List.getElem?_toArray, List.getElem?_cons_zero, List.getElem?_cons_succ] at d0 d1 d2 d3
    have hx : w.heap.size < (w.alloc (.cells #[.bool v, .int .u32 n, .int .u32 p, .int .u32 b] 35)).drew.heap.size := by show _ < (w.alloc _).heap.size; simp
    have HB := Lib.hid hb
    clear hc hb e1
    generalize (w.alloc (.cells #[.bool v, .int .u32 n, .int .u32 p, .int .u32 b] 35)).drew = W at *
    generalize hX : w.heap.size = X at *
    have HX := Lib.hid hX
    clear hX
    have hv : V.tmod 64 = V % 64 := Int.tmod_eq_emod_of_nonneg h0
    generalize hZ : bits .and .u32 b N = Z at *
    by_cases hN : N = 0
    · subst hN
      have e := Lib.hid (show A = .tuple #[.int .u32 0, .bool false] by rw [← hA, ← hR]; simp)
      clear HL hZ n0 n1 hR hA
      go_wp2
      go_ret2
      have hX := HX.out
      subst hX
      exact ⟨congrArg Ending.returned e.out.symm, HB.out⟩
    · have hN1 : (N == 0) = false := by simpa using hN
      cases L
      · have e := Lib.hid (show A = .tuple #[.int .u32 0, .bool false] by rw [← hA, ← hR]; simp)
        clear hZ hR hA
        go_wp2_with (go_at_call 24
                     refine (HL.out _).mono ?_
                     rintro r w2 ⟨rfl, hb2⟩
                     have HB2 := Lib.hid (HB.out.trans (hb2.mono (by have := HX.out; omega)))
                     clear hb2)
        go_ret2
        have hX := HX.out
        subst hX
        exact ⟨congrArg Ending.returned e.out.symm, HB2.out⟩
      · by_cases hq : Z = N
        · have e := Lib.hid (show A = .tuple #[.int .u32 (p * 64 % 4294967296 + V % 64), .bool true] by rw [← hA, ← hR]; simp [hN, hZ, hq]; omega)
          have hq1 : (bits .and .u32 b N != N) = false := by rw [hZ, hq]; simp
          clear hR hZ hA
          go_wp2_with (go_at_call 24
                       refine (HL.out _).mono ?_
                       rintro r w2 ⟨rfl, hb2⟩
                       have HB2 := Lib.hid (HB.out.trans (hb2.mono (by have := HX.out; omega)))
                       have f2 := (hb2.cell (p := ⟨X, 2, none⟩) hx).trans d2
                       have f3 := (hb2.cell (p := ⟨X, 3, none⟩) hx).trans d3
                       clear hb2)
          go_ret2
          have hX := HX.out
          subst hX
          exact ⟨congrArg Ending.returned e.out.symm, HB2.out⟩
        · have e := Lib.hid (show A = .tuple #[.int .u32 0, .bool false] by rw [← hA, ← hR]; simp [hZ, hq])
          have hq1 : (bits .and .u32 b N != N) = true := by rw [hZ]; simpa using hq
          clear hR hZ hA
          go_wp2_with (go_at_call 24
                       refine (HL.out _).mono ?_
                       rintro r w2 ⟨rfl, hb2⟩
                       have HB2 := Lib.hid (HB.out.trans (hb2.mono (by have := HX.out; omega)))
                       have f2 := (hb2.cell (p := ⟨X, 2, none⟩) hx).trans d2
                       have f3 := (hb2.cell (p := ⟨X, 3, none⟩) hx).trans d3
                       clear hb2)
          go_ret2
          have hX := HX.out
          subst hX
          exact ⟨congrArg Ending.returned e.out.symm, HB2.out⟩
end
end Go.Proofs.Ytblfplhiamcpoaa

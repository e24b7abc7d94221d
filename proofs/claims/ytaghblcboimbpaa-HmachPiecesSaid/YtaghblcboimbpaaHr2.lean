/-
  innkeeperref3.Decode: A CONTRACT.
-/
import Derived.Test.YtaghblcboimbpaaHc6
import Derived.Test.YtaghblcboimbpaaHr
import Derived.Deep.RegionHeld3
import Derived.IntWalk
namespace Go.Proofs.Ytaghblcboimbpaa
open Go.RowKit
set_option linter.unusedSimpArgs false
set_option linter.unusedVariables false

set_option maxRecDepth 100000 in
set_option maxHeartbeats 1000000 in
theorem rdecode_len (A : Option Addr) (n c : Nat) (hn : n ≠ 8) (w : World) :
    Calls Try.prog 36 #[.slice A n c] w fun e w' => e = .returned (.tuple #[hv 0 0 0 0 0, .bool false]) ∧ Below w.heap.size w w' := by
  have h8 : ((n : Int) != 8) = true := by simp; omega
  go_enter Try.func36, Try.ntmps36
  go_wp2_with fail
  exact bodyPost_ret (v := .tuple #[hv 0 0 0 0 0, .bool false]) (by simp [results, Try.results36, go_sem]) rfl ⟨rfl, (Below.refl _ _).alloc (Nat.le_refl _) _⟩

set_option maxRecDepth 100000 in
set_option maxHeartbeats 2000000 in
theorem rdecode_eight (g off c : Nat) (p0 p1 p2 p3 p4 p5 p6 p7 N : Int) (h0 : 0 ≤ p0 ∧ p0 < 256) (h1 : 0 ≤ p1 ∧ p1 < 256) (h2 : 0 ≤ p2 ∧ p2 < 256) (h3 : 0 ≤ p3 ∧ p3 < 256) (h4 : 0 ≤ p4 ∧ p4 < 256) (h5 : 0 ≤ p5 ∧ p5 < 256) (h6 : 0 ≤ p6 ∧ p6 < 256) (h7 : 0 ≤ p7 ∧ p7 < 256)
    (hN : N = p4 + 256 * p5 + 65536 * p6 + 16777216 * p7) (w : World) (hg : g < w.heap.size)
    (c0 : w.cell? ⟨g, off, none⟩ = some (.int .u8 p0)) (c1 : w.cell? ⟨g, off + 1, none⟩ = some (.int .u8 p1)) (c2 : w.cell? ⟨g, off + 2, none⟩ = some (.int .u8 p2)) (c3 : w.cell? ⟨g, off + 3, none⟩ = some (.int .u8 p3))
    (c4 : w.cell? ⟨g, off + 4, none⟩ = some (.int .u8 p4)) (c5 : w.cell? ⟨g, off + 5, none⟩ = some (.int .u8 p5)) (c6 : w.cell? ⟨g, off + 6, none⟩ = some (.int .u8 p6)) (c7 : w.cell? ⟨g, off + 7, none⟩ = some (.int .u8 p7)) :
    Calls Try.prog 36 #[.slice (some ⟨g, off, none⟩) 8 c] w fun e w' => e = .returned (if okH p0 p1 p2 p3 N = true then .tuple #[hv p0 p1 p2 p3 N, .bool true] else .tuple #[hv 0 0 0 0 0, .bool false]) ∧ Below w.heap.size w w' := by
  obtain ⟨o1, o2, o3⟩ := or_parts p4 p5 p6 p7 h4 h5 h6 h7
  rw [← hN] at o3
  have hNb : 0 ≤ N ∧ N < 4294967296 := by omega
  clear hN
  have i0 : IntKind.i64.wrap p0 = p0 := IntWalk.i64_in _ (by omega)
  have i1 : IntKind.i64.wrap p1 = p1 := IntWalk.i64_in _ (by omega)
  have i2 : IntKind.i64.wrap p2 = p2 := IntWalk.i64_in _ (by omega)
  have i3 : IntKind.i64.wrap p3 = p3 := IntWalk.i64_in _ (by omega)
  have uw : ∀ x : Int, 0 ≤ x → x < 4294967296 → IntKind.u32.wrap x = x := fun x x0 x1 => by rw [IntKind.wrap_u32]; omega
  have u4 := uw p4 (by omega) (by omega)
  have u5 := uw p5 (by omega) (by omega)
  have u6 := uw p6 (by omega) (by omega)
  have u7 := uw p7 (by omega) (by omega)
  have s5 := uw (p5 * 256) (by omega) (by omega)
  have s6 := uw (p6 * 65536) (by omega) (by omega)
  have s7 := uw (p7 * 16777216) (by omega) (by omega)
  clear uw
  have hr := rright_any p0 p1 p2 p3 N
  have HR := Lib.hid hr
  clear hr
  generalize hv1 : (if okH p0 p1 p2 p3 N = true then Value.tuple #[hv p0 p1 p2 p3 N, .bool true] else .tuple #[hv 0 0 0 0 0, .bool false]) = V
  have HV := Lib.hid hv1
  clear hv1
  go_enter Try.func36, Try.ntmps36
  go_wp2_with fail
  have k0 : ∀ j v, w.cell? ⟨g, off + j, none⟩ = some v → (w.alloc (.cells #[.int .i64 0, .int .i64 0, .int .i64 0, .int .i64 0, .int .u32 0] 35)).cell? ⟨g, off + j, none⟩ = some v := fun j v h => by rw [World.cell?_alloc_lt _ _ _ hg]; exact h
  have d0 := k0 0 _ c0
  have d1 := k0 1 _ c1
  have d2 := k0 2 _ c2
  have d3 := k0 3 _ c3
  have d4 := k0 4 _ c4
  have d5 := k0 5 _ c5
  have d6 := k0 6 _ c6
  have d7 := k0 7 _ c7
  have kb := Blk.new w 35 #[.int .i64 0, .int .i64 0, .int .i64 0, .int .i64 0, .int .u32 0]
  have kB : Below w.heap.size w (w.alloc (.cells #[.int .i64 0, .int .i64 0, .int .i64 0, .int .i64 0, .int .u32 0] 35)) := (Below.refl _ _).alloc (Nat.le_refl _) _
  clear k0 c0 c1 c2 c3 c4 c5 c6 c7
  generalize w.alloc (.cells #[.int .i64 0, .int .i64 0, .int .i64 0, .int .i64 0, .int .u32 0] 35) = W at *
  have KB := Lib.hid kb
  have KK := Lib.hid kB
  clear kb kB
  simp only [Nat.add_zero] at d0
  have n0 := World.new_ne W _ d0
  go_region_held3 (fun w' => w'.cell? ⟨g, off, none⟩ = some (.int .u8 p0) ∧ w'.cell? ⟨g, off + 1, none⟩ = some (.int .u8 p1) ∧ w'.cell? ⟨g, off + 2, none⟩ = some (.int .u8 p2) ∧ w'.cell? ⟨g, off + 3, none⟩ = some (.int .u8 p3) ∧ w'.cell? ⟨g, off + 4, none⟩ = some (.int .u8 p4) ∧ w'.cell? ⟨g, off + 5, none⟩ = some (.int .u8 p5) ∧ w'.cell? ⟨g, off + 6, none⟩ = some (.int .u8 p6) ∧ w'.cell? ⟨g, off + 7, none⟩ = some (.int .u8 p7)) (go_keep) (fail)
  clear i0 i1 i2 i3 u4 u5 u6 u7 s5 s6 s7 o1 o2 o3 d0 d1 d2 d3 d4 d5 d6 d7
  have hb5 : Box5 W.heap.size (.int .i64 p0) (.int .i64 p1) (.int .i64 p2) (.int .i64 p3) (.int .u32 N) (W.alloc (.cells #[.int .i64 p0, .int .i64 p1, .int .i64 p2, .int .i64 p3, .int .u32 N] 35)).drew := Box5.new W (.int .i64 p0) (.int .i64 p1) (.int .i64 p2) (.int .i64 p3) (.int .u32 N) 35
  have kr : Blk (W.alloc (.cells #[.int .i64 p0, .int .i64 p1, .int .i64 p2, .int .i64 p3, .int .u32 N] 35)).drew w.heap.size 35 #[.int .i64 0, .int .i64 0, .int .i64 0, .int .i64 0, .int .u32 0] := KB.out.alloc _
  have kz : W.heap.size < (W.alloc (.cells #[.int .i64 p0, .int .i64 p1, .int .i64 p2, .int .i64 p3, .int .u32 N] 35)).drew.heap.size := by simp [World.drew]
  have kw : Below w.heap.size w (W.alloc (.cells #[.int .i64 p0, .int .i64 p1, .int .i64 p2, .int .i64 p3, .int .u32 N] 35)).drew := (KK.out.alloc KK.out.size _).drew
  generalize (W.alloc (.cells #[.int .i64 p0, .int .i64 p1, .int .i64 p2, .int .i64 p3, .int .u32 N] 35)).drew = W2 at *
  have kz2 := KB.out.lt
  have K5 := Lib.hid hb5
  have KR := Lib.hid kr
  have KW := Lib.hid kw
  clear hb5 kr kw KB KK n0
  obtain ⟨e0, e1, e2, e3, e4⟩ := K5.out
  cases hk : okH p0 p1 p2 p3 N
  · rw [hk] at HR
    have hv2 := HV.out
    rw [hk] at hv2
    simp only [Bool.false_eq_true, if_true, if_false] at hv2
    subst hv2
    clear HV
    go_wp2_with (go_at_call 39; refine (HR.out _).mono ?_; rintro e w3 ⟨rfl, hb3⟩; have k3 := KR.out.below hb3 (by omega); have c0 := k3.cell 0; have c1 := k3.cell 1; have c2 := k3.cell 2; have c3 := k3.cell 3; have c4 := k3.cell 4; have f0 := k3.frozen 0; have f1 := k3.frozen 1; have f2 := k3.frozen 2; have f3 := k3.frozen 3; have f4 := k3.frozen 4; simp at c0 c1 c2 c3 c4; obtain ⟨g0, g1, g2, g3, g4⟩ := K5.out.keep hb3 (by omega); have hz3 := k3.lt; have KW3 := Lib.hid (KW.out.trans (hb3.mono KW.out.size)); clear k3 hb3 e0 e1 e2 e3 e4)
    exact bodyPost_ret (v := .tuple #[hv 0 0 0 0 0, .bool false]) (by simp [results, Try.results36, go_sem, c0, c1, c2, c3, c4, f0, f1, f2, f3, f4, hz3]) rfl ⟨rfl, ((((KW3.out.setCell (Nat.le_refl _) _).setCell (Nat.le_refl _) _).setCell (Nat.le_refl _) _).setCell (Nat.le_refl _) _).setCell (Nat.le_refl _) _⟩
  · rw [hk] at HR
    have hv2 := HV.out
    rw [hk] at hv2
    simp only [Bool.false_eq_true, if_true, if_false] at hv2
    subst hv2
    clear HV
    go_wp2_with (go_at_call 39; refine (HR.out _).mono ?_; rintro e w3 ⟨rfl, hb3⟩; have k3 := KR.out.below hb3 (by omega); have c0 := k3.cell 0; have c1 := k3.cell 1; have c2 := k3.cell 2; have c3 := k3.cell 3; have c4 := k3.cell 4; have f0 := k3.frozen 0; have f1 := k3.frozen 1; have f2 := k3.frozen 2; have f3 := k3.frozen 3; have f4 := k3.frozen 4; simp at c0 c1 c2 c3 c4; obtain ⟨g0, g1, g2, g3, g4⟩ := K5.out.keep hb3 (by omega); have hz3 := k3.lt; have KW3 := Lib.hid (KW.out.trans (hb3.mono KW.out.size)); clear k3 hb3 e0 e1 e2 e3 e4)
    exact bodyPost_ret (v := .tuple #[hv p0 p1 p2 p3 N, .bool true]) (by simp [results, Try.results36, go_sem, c0, c1, c2, c3, c4, f0, f1, f2, f3, f4, hz3]) rfl ⟨rfl, ((((KW3.out.setCell (Nat.le_refl _) _).setCell (Nat.le_refl _) _).setCell (Nat.le_refl _) _).setCell (Nat.le_refl _) _).setCell (Nat.le_refl _) _⟩

theorem rdecode_any (A : Option Addr) (c : Nat) (l : List UInt8) (w : World) (hr : Rd w w.heap.size A (bv l)) :
    Calls Try.prog 36 #[.slice A l.length c] w fun e w' => e = .returned (.tuple #[(dcI l).v, .bool (dcE l == 0)]) ∧ Below w.heap.size w w' := by
  by_cases h8 : l.length = 8
  · obtain ⟨g, off, rfl, hg, hc⟩ := hr (by rw [bv_length]; omega)
    have hcell : ∀ j, j < 8 → w.cell? ⟨g, off + j, none⟩ = some (.int .u8 (nth l j)) := fun j hj => hc j _ (bv_at l j (by omega))
    have h := rdecode_eight g off c (nth l 0) (nth l 1) (nth l 2) (nth l 3) (nth l 4) (nth l 5) (nth l 6) (nth l 7) (nmI l) (nth_bd l 0) (nth_bd l 1) (nth_bd l 2) (nth_bd l 3) (nth_bd l 4) (nth_bd l 5) (nth_bd l 6) (nth_bd l 7) rfl w hg
      (by simpa using hcell 0 (by omega)) (hcell 1 (by omega)) (hcell 2 (by omega)) (hcell 3 (by omega)) (hcell 4 (by omega)) (hcell 5 (by omega)) (hcell 6 (by omega)) (hcell 7 (by omega))
    rw [h8]
    refine h.mono ?_
    rintro e w' ⟨rfl, hb⟩
    refine ⟨?_, hb⟩
    cases hk : okH (nth l 0) (nth l 1) (nth l 2) (nth l 3) (nmI l)
    · have e1 : dcE l = 12 := by simp [dcE, h8, rawI, Hi.ok, hk]
      simp [dcI, e1, zeroI, Hi.v]
    · have e1 : dcE l = 0 := by simp [dcE, h8, rawI, Hi.ok, hk]
      simp [dcI, e1, rawI, Hi.v]
  · have e1 : dcE l = 10 := by simp [dcE, h8]
    have e2 : dcI l = zeroI := by simp [dcI, e1]
    rw [e1, e2]
    exact rdecode_len A l.length c h8 w
end Go.Proofs.Ytaghblcboimbpaa

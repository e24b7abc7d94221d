/-
  innkeeperlaw8's same: A CONTRACT.
-/
import Derived.Test.YtoejpdhcibbgdaaWc
import Derived.Test.YtoejpdhcibbgdaaWx
import Derived.Test.YtoejpdhcibbgdaaRh
namespace Go.Proofs.Ytoejpdhcibbgdaa
open Go.RowKit
set_option linter.unusedSimpArgs false
set_option linter.unusedVariables false

theorem doS_ok {X : Rm} (h : X.Ok) (r v : Nat) (k : Int) (s : Bool) : (X.doS r v k s).Ok := by
  refine ⟨by rw [doS_n]; exact h.n1, fun a ha => ?_⟩
  rw [doS_n] at ha
  unfold Rm.doS
  split
  · rw [wr_b]
    split
    · rename_i h1 h2
      have hus : X.us r v k < 4294967296 := or_lt _ _ (lkE_lt h r v) (mk_lt k)
      refine w4_bd (v := ((X.us r v k : Nat) : Int)) ⟨by omega, by omega⟩ ?_
      have hl : a - X.lkA r v < (w4 ((X.us r v k : Nat) : Int)).length := by omega
      rw [List.getD_eq_getElem?_getD, List.getElem?_eq_getElem hl]
      exact List.getElem_mem _
    · exact h.bd a ha
  · exact h.bd a ha
theorem res_new2 (w : World) (a b c d e f : Value) : Res ((w.alloc (.cells #[a, b, c, d] 37)).alloc (.cells #[e, f] 39)) w.heap.size (w.heap.size + 1) #[a, b, c, d] #[e, f] :=
  ⟨heap_alloc2_old _ _ _, heap_alloc2_new _ _ _, rfl, rfl⟩
section
variable {p : Bl} {X : Rm} {w0 : World} {B q b t : Nat}
set_option maxRecDepth 100000 in
set_option maxHeartbeats 4000000 in
theorem same8_any (r v : Nat) (hr : r < 4294967296) (hv : v < 4294967296) (k : Int) (s : Bool) (w : World) (hB : B ≤ w0.heap.size) (hP : Pr w0 B p q b t w X X) :
    Calls Try.prog 13 #[.pointer (some ⟨p.m, 0, none⟩), .pointer (some ⟨q, 0, none⟩), .int .u32 r, .int .u32 v, .int .i64 k, .bool s] w fun e w' => e = .returned (.bool true) ∧ Pr w B p q b t w' (X.doS r v k s) (X.doS r v k s) := by
  have hBw := hP.size hB
  have HP := Lib.hid hP.now
  have hOk := hP.d.m.ok
  have hl1 := look_any r v hr hv w hP.d.m
  have hl2 := fun m => rlook_any r v hr hv (w.drewN m) ((hP.u).drewN m) hOk
  have hd1 := fun m => do_any r v hr hv k s (w.drewN m) (hP.d.m.drewN m)
  have hd2 := fun W (h : IsW W q b t X) => rdo_any r v hr hv k s W h hOk
  have hA0 : (0 : Int) ≤ ((X.lkA r v : Nat) : Int) := by omega
  have hA1 : ((X.lkA r v : Nat) : Int) < 4294967296 := by have := lkA_le hOk r v; have := hOk.n1; omega
  have hYn := doS_n X r v k s
  unfold Rm.doE Rm.doT enV trV at hd1 hd2
  have HL1 := Lib.hid hl1
  have HL2 := Lib.hid hl2
  have HD1 := Lib.hid hd1
  have HD2 := Lib.hid hd2
  unfold Told at HL1 HL2
  unfold Left at HD1
  have HYN := Lib.hid hYn
  have HYO := Lib.hid (doS_ok hOk r v k s)
  clear hP hOk hl1 hl2 hd1 hd2 hr hv hYn hB
  generalize X.doS r v k s = Y at *
  generalize X.doB r v k s = D at *
  generalize (((if D = true then v / 64 else 0 : Nat)) : Int) = e1 at *
  generalize (((if D = true then X.us r v k / 256 else 0 : Nat)) : Int) = e2 at *
  generalize (((if D = true then X.us r v k &&& 94 else 0 : Nat)) : Int) = e3 at *
  generalize trC D k = t1 at *
  generalize trA D v = t2 at *
  generalize ((X.lkA r v : Nat) : Int) = LA at *
  generalize ((X.lkE r v : Nat) : Int) = LE at *
  generalize X.lkB r v = LB at *
  generalize (r : Int) = R at *
  generalize (v : Int) = V at *
  go_enter Try.func13, Try.ntmps13
  go_wp2_with (first
    | (go_at_call 18; refine HL1.out.mono ?_; rintro e wx ⟨rfl, m1, rfl⟩; clear HL1)
    | (go_at_call 26; refine (HL2.out _).mono ?_; rintro e wx ⟨rfl, m2, hm2⟩; rw [World.drewN_drewN] at hm2; subst hm2; clear HL2)
    | (go_at_call 14; refine (HD1.out _).mono ?_; rintro e w1 ⟨rfl, h1, h2⟩
       have HP1 := Lib.hid ((HP.out.keep hBw (Below_drewN (Below.refl _ _) _)).left hBw h1 h2)
       clear h1 h2 HD1 HP)
    | (go_at_call 27
       have hb2 : Below w1.heap.size w1 ((w1.alloc (.cells #[.bool D, .int .u32 e1, .int .u32 e2, .int .u32 e3] 37)).alloc (.cells #[.int .i64 t1, .int .u32 t2] 39)) := ((Below.refl _ _).alloc (Nat.le_refl _) _).alloc (by simp) _
       have HP2 := Lib.hid (HP1.out.keep hBw hb2)
       have hz := HP1.out.u.z
       have hR := res_new2 w1 (.bool D) (.int .u32 e1) (.int .u32 e2) (.int .u32 e3) (.int .i64 t1) (.int .u32 t2)
       refine (HD2.out _ HP2.out.u).mono ?_
       rintro e w3 ⟨rfl, hu3, ht3⟩
       have HP3 := Lib.hid (HP2.out.right hBw hu3 ht3)
       have HR3 := Lib.hid (hR.turn ht3 (by omega) (by omega) (by omega) (by omega))
       clear hb2 hz hR hu3 ht3 HP1 HP2 HD2))
  have hR2 := res_new2 w3 (.bool D) (.int .u32 e1) (.int .u32 e2) (.int .u32 e3) (.int .i64 t1) (.int .u32 t2)
  have hb4 : Below w3.heap.size w3 ((w3.alloc (.cells #[.bool D, .int .u32 e1, .int .u32 e2, .int .u32 e3] 37)).alloc (.cells #[.int .i64 t1, .int .u32 t2] 39)) := ((Below.refl _ _).alloc (Nat.le_refl _) _).alloc (by simp) _
  have HP4 := Lib.hid (HP3.out.keep hBw hb4)
  have hR1 := HR3.out.below hb4 HR3.out.e.lt HR3.out.t.lt
  generalize ((w3.alloc (.cells #[.bool D, .int .u32 e1, .int .u32 e2, .int .u32 e3] 37)).alloc (.cells #[.int .i64 t1, .int .u32 t2] 39)) = W0 at *
  generalize w1.heap.size = s1 at *
  generalize w3.heap.size = s2 at *
  clear HP3 HR3 hb4
  have a0 : ∀ W, Below W0.heap.size W0 W → W.cell? ⟨s1, 0, none⟩ = some (.bool D) := fun W hb => (hb.cell (p := ⟨s1, 0, none⟩) hR1.e.lt).trans (hR1.e.cell 0)
  have a1 : ∀ W, Below W0.heap.size W0 W → W.cell? ⟨s1, 1, none⟩ = some (.int .u32 e1) := fun W hb => (hb.cell (p := ⟨s1, 1, none⟩) hR1.e.lt).trans (hR1.e.cell 1)
  have a2 : ∀ W, Below W0.heap.size W0 W → W.cell? ⟨s1, 2, none⟩ = some (.int .u32 e2) := fun W hb => (hb.cell (p := ⟨s1, 2, none⟩) hR1.e.lt).trans (hR1.e.cell 2)
  have a3 : ∀ W, Below W0.heap.size W0 W → W.cell? ⟨s1, 3, none⟩ = some (.int .u32 e3) := fun W hb => (hb.cell (p := ⟨s1, 3, none⟩) hR1.e.lt).trans (hR1.e.cell 3)
  have a4 : ∀ W, Below W0.heap.size W0 W → W.cell? ⟨s1 + 1, 0, none⟩ = some (.int .i64 t1) := fun W hb => (hb.cell (p := ⟨s1 + 1, 0, none⟩) hR1.t.lt).trans (hR1.t.cell 0)
  have a5 : ∀ W, Below W0.heap.size W0 W → W.cell? ⟨s1 + 1, 1, none⟩ = some (.int .u32 t2) := fun W hb => (hb.cell (p := ⟨s1 + 1, 1, none⟩) hR1.t.lt).trans (hR1.t.cell 1)
  have b0 : ∀ W, Below W0.heap.size W0 W → W.cell? ⟨s2, 0, none⟩ = some (.bool D) := fun W hb => (hb.cell (p := ⟨s2, 0, none⟩) hR2.e.lt).trans (hR2.e.cell 0)
  have b1 : ∀ W, Below W0.heap.size W0 W → W.cell? ⟨s2, 1, none⟩ = some (.int .u32 e1) := fun W hb => (hb.cell (p := ⟨s2, 1, none⟩) hR2.e.lt).trans (hR2.e.cell 1)
  have b2 : ∀ W, Below W0.heap.size W0 W → W.cell? ⟨s2, 2, none⟩ = some (.int .u32 e2) := fun W hb => (hb.cell (p := ⟨s2, 2, none⟩) hR2.e.lt).trans (hR2.e.cell 2)
  have b3 : ∀ W, Below W0.heap.size W0 W → W.cell? ⟨s2, 3, none⟩ = some (.int .u32 e3) := fun W hb => (hb.cell (p := ⟨s2, 3, none⟩) hR2.e.lt).trans (hR2.e.cell 3)
  have b4 : ∀ W, Below W0.heap.size W0 W → W.cell? ⟨s2 + 1, 0, none⟩ = some (.int .i64 t1) := fun W hb => (hb.cell (p := ⟨s2 + 1, 0, none⟩) hR2.t.lt).trans (hR2.t.cell 0)
  have b5 : ∀ W, Below W0.heap.size W0 W → W.cell? ⟨s2 + 1, 1, none⟩ = some (.int .u32 t2) := fun W hb => (hb.cell (p := ⟨s2 + 1, 1, none⟩) hR2.t.lt).trans (hR2.t.cell 1)
  have hn1 := HYO.out.n1
  have hN0 : Y.n * 64 ≤ 4096 := by omega
  have c0 : ∀ W, Below W0.heap.size W0 W → W.cell? ⟨q, 0, none⟩ = some (.slice (some ⟨b, 0, none⟩) (Y.n * 64) (Y.n * 64)) := fun W hb => (HP4.out.u.below hb).c0
  have f0 := fun W (hb : Below W0.heap.size W0 W) => conv_B (HP4.out.u.below hb).ib (fun j hj => HYO.out.bd j hj) (Y.n * 64)
  have hal := fun W (hb : Below W0.heap.size W0 W) => allM_any W (HP4.out.d.m.below hb)
  have htu := fun W (hb : Below W0.heap.size W0 W) => turned_any W (HP4.out.d.m.below hb)
  have hpg := fun W (hb : Below W0.heap.size W0 W) => rpages_any W (HP4.out.u.below hb) hn1.2
  have hll := tuL_le Y.tu Y.n
  have HBD := Lib.hid (fun j (hj : j < Y.n * 64) => HYO.out.bd j hj)
  generalize hSS : strL (rowL Y.b (Y.n * 64)) = S1 at *
  have HSS := Lib.hid hSS
  have HL := Lib.hid (show (tuL Y.tu Y.n).length ≤ 64 by omega)
  have HAL := Lib.hid hal
  have HTU := Lib.hid htu
  have HPG := Lib.hid hpg
  unfold NewB at HAL
  unfold NewL at HTU HPG
  clear hR1 hR2 hn1 hal htu hpg hll hSS
  generalize Y.n * 64 = N at *
  generalize hln : (tuL Y.tu Y.n).length = ln at *
  have HLN := Lib.hid hln
  generalize tuL Y.tu Y.n = L at *
  clear hln
  have hst : Below W0.heap.size W0 W0.drew := (Below.refl _ _).drew
  refine wp_region_held_drew (S := fun w' => Below W0.heap.size W0 w') (by kernel_rfl) hst (fun hHeld => ?_)
  try dsimp only
  refine' wpAnyH_take (i := 0) (v := _) rfl (by kernel_rfl) (by kernel_rfl) (by kernel_rfl) (fun _ _ _ h => h) (Or.inl ⟨by rfl, ?hy0⟩) hHeld ?_
  case hy0 => (intro w hSw; (try dsimp only at hSw); go_simp; (try with_reducible rfl))
  (try simp only [Act.put, List.getElem_toArray, List.getElem_cons_succ, List.getElem_cons_zero, List.setIfInBounds_toArray, List.set_cons_zero, List.set_cons_succ])
  refine' wpAnyH_take (i := 1) (v := _) rfl (by kernel_rfl) (by kernel_rfl) (by kernel_rfl) (fun _ _ _ h => h) (Or.inl ⟨by rfl, ?hy1⟩) hHeld ?_
  case hy1 => (intro w hSw; (try dsimp only at hSw); go_simp; (try with_reducible rfl))
  (try simp only [Act.put, List.getElem_toArray, List.getElem_cons_succ, List.getElem_cons_zero, List.setIfInBounds_toArray, List.set_cons_zero, List.set_cons_succ])
  refine' wpAnyH_take (i := 2) (v := _) rfl (by kernel_rfl) (by kernel_rfl) (by kernel_rfl) (fun _ _ _ h => h) (Or.inl ⟨by rfl, ?hy2⟩) hHeld ?_
  case hy2 => (intro w hSw; (try dsimp only at hSw); go_simp; (try with_reducible rfl))
  (try simp only [Act.put, List.getElem_toArray, List.getElem_cons_succ, List.getElem_cons_zero, List.setIfInBounds_toArray, List.set_cons_zero, List.set_cons_succ])
  refine' wpAnyH_take (i := 3) (v := _) rfl (by kernel_rfl) (by kernel_rfl) (by kernel_rfl) (fun _ _ _ h => h) (Or.inl ⟨by rfl, ?hy3⟩) hHeld ?_
  case hy3 => (intro w hSw; (try dsimp only at hSw); go_simp; (try with_reducible rfl))
  (try simp only [Act.put, List.getElem_toArray, List.getElem_cons_succ, List.getElem_cons_zero, List.setIfInBounds_toArray, List.set_cons_zero, List.set_cons_succ])
  refine' wpAnyH_take (i := 4) (v := _) rfl (by kernel_rfl) (by kernel_rfl) (by kernel_rfl) (fun _ _ _ h => h) (Or.inl ⟨by rfl, ?hy4⟩) hHeld ?_
  case hy4 => (intro w hSw; (try dsimp only at hSw); go_simp; (try with_reducible rfl))
  (try simp only [Act.put, List.getElem_toArray, List.getElem_cons_succ, List.getElem_cons_zero, List.setIfInBounds_toArray, List.set_cons_zero, List.set_cons_succ])
  refine' wpAnyH_take (i := 5) (v := _) rfl (by kernel_rfl) (by kernel_rfl) (by kernel_rfl) (fun _ _ _ h => h) (Or.inl ⟨by rfl, ?hy5⟩) hHeld ?_
  case hy5 => (intro w hSw; (try dsimp only at hSw); go_simp; (try with_reducible rfl))
  (try simp only [Act.put, List.getElem_toArray, List.getElem_cons_succ, List.getElem_cons_zero, List.setIfInBounds_toArray, List.set_cons_zero, List.set_cons_succ])
  refine' wpAnyH_take (i := 6) (v := _) rfl (by kernel_rfl) (by kernel_rfl) (by kernel_rfl) (fun _ _ _ h => h) (Or.inl ⟨by rfl, ?hy6⟩) hHeld ?_
  case hy6 => (intro w hSw; (try dsimp only at hSw); go_simp; (try with_reducible rfl))
  (try simp only [Act.put, List.getElem_toArray, List.getElem_cons_succ, List.getElem_cons_zero, List.setIfInBounds_toArray, List.set_cons_zero, List.set_cons_succ])
  refine' wpAnyH_take (i := 7) (v := _) rfl (by kernel_rfl) (by kernel_rfl) (by kernel_rfl) (fun _ _ _ h => h) (Or.inl ⟨by rfl, ?hy7⟩) hHeld ?_
  case hy7 => (intro w hSw; (try dsimp only at hSw); go_simp; (try with_reducible rfl))
  (try simp only [Act.put, List.getElem_toArray, List.getElem_cons_succ, List.getElem_cons_zero, List.setIfInBounds_toArray, List.set_cons_zero, List.set_cons_succ])
  refine' wpAnyH_take (i := 8) (v := _) rfl (by kernel_rfl) (by kernel_rfl) (by kernel_rfl) (fun _ _ _ h => h) (Or.inl ⟨by rfl, ?hy8⟩) hHeld ?_
  case hy8 => (intro w hSw; (try dsimp only at hSw); go_simp; (try with_reducible rfl))
  (try simp only [Act.put, List.getElem_toArray, List.getElem_cons_succ, List.getElem_cons_zero, List.setIfInBounds_toArray, List.set_cons_zero, List.set_cons_succ])
  refine' wpAnyH_take (i := 9) (v := _) rfl (by kernel_rfl) (by kernel_rfl) (by kernel_rfl) (fun _ _ _ h => h) (Or.inl ⟨by rfl, ?hy9⟩) hHeld ?_
  case hy9 => (intro w hSw; (try dsimp only at hSw); go_simp; (try with_reducible rfl))
  (try simp only [Act.put, List.getElem_toArray, List.getElem_cons_succ, List.getElem_cons_zero, List.setIfInBounds_toArray, List.set_cons_zero, List.set_cons_succ])
  refine' wpAnyH_take (i := 12) (v := _) rfl (by kernel_rfl) (by kernel_rfl) (by kernel_rfl) (fun _ _ _ h => h) (Or.inl ⟨by rfl, ?hy12⟩) hHeld ?_
  case hy12 => (intro w hSw; (try dsimp only at hSw); go_simp; (try with_reducible rfl))
  (try simp only [Act.put, List.getElem_toArray, List.getElem_cons_succ, List.getElem_cons_zero, List.setIfInBounds_toArray, List.set_cons_zero, List.set_cons_succ])
  refine' wpAnyH_take (i := 13) (v := _) rfl (by kernel_rfl) (by kernel_rfl) (by kernel_rfl) (fun _ _ _ h => h) (Or.inl ⟨by rfl, ?hy13⟩) hHeld ?_
  case hy13 => (intro w hSw; (try dsimp only at hSw); go_simp; (try with_reducible rfl))
  (try simp only [Act.put, List.getElem_toArray, List.getElem_cons_succ, List.getElem_cons_zero, List.setIfInBounds_toArray, List.set_cons_zero, List.set_cons_succ])
  refine' wpAnyH_take (i := 14) (v := _) rfl (by kernel_rfl) (by kernel_rfl) (by kernel_rfl) (fun _ _ _ h => h) (Or.inl ⟨by rfl, ?hy14⟩) hHeld ?_
  case hy14 => (intro w hSw; (try dsimp only at hSw); go_simp; (try with_reducible rfl))
  (try simp only [Act.put, List.getElem_toArray, List.getElem_cons_succ, List.getElem_cons_zero, List.setIfInBounds_toArray, List.set_cons_zero, List.set_cons_succ])
  refine' wpAnyH_take (i := 15) (v := _) rfl (by kernel_rfl) (by kernel_rfl) (by kernel_rfl) (fun _ _ _ h => h) (Or.inl ⟨by rfl, ?hy15⟩) hHeld ?_
  case hy15 => (intro w hSw; (try dsimp only at hSw); go_simp; (try with_reducible rfl))
  (try simp only [Act.put, List.getElem_toArray, List.getElem_cons_succ, List.getElem_cons_zero, List.setIfInBounds_toArray, List.set_cons_zero, List.set_cons_succ])
  refine' wpAnyH_take (i := 16) (v := _) rfl (by kernel_rfl) (by kernel_rfl) (by kernel_rfl) (fun _ _ _ h => h) (Or.inl ⟨by rfl, ?hy16⟩) hHeld ?_
  case hy16 => (intro w hSw; (try dsimp only at hSw); go_simp; (try with_reducible rfl))
  (try simp only [Act.put, List.getElem_toArray, List.getElem_cons_succ, List.getElem_cons_zero, List.setIfInBounds_toArray, List.set_cons_zero, List.set_cons_succ])
  refine wpAnyH_ready (rs := [10]) (by kernel_rfl) (by simp) ?_
  refine AllReadyH.cons rfl (fun K hK => ?_) AllReadyH.nil
  go_simp
  (go_at_call 17; refine (HAL.out _ hHeld).mono ?_; rintro e v1 ⟨ga, rfl, hga, hBa, hba⟩)
  refine hK.out _ _ (hHeld.trans (hba.mono hHeld.size)) (fun hHeld => ?_)
  clear hK K
  (try simp only [Act.put, List.getElem_toArray, List.getElem_cons_succ, List.getElem_cons_zero, List.setIfInBounds_toArray, List.set_cons_zero, List.set_cons_succ])
  have f1 := fun W (hb : Below v1.heap.size v1 W) => conv_B (IsC.after hBa hb) HBD.out N
  rw [HSS.out] at f1
  have HH1 := Lib.hid hHeld
  clear HAL hBa hba f0 a0 a1 a2 a3 a4 a5 b0 b1 b2 b3 b4 b5 c0
  refine wpAnyH_mono (S' := fun w' => Below v1.heap.size v1 w') (fun _ h => HH1.out.trans (h.mono HH1.out.size)) _ _ _ _ ?_
  replace hHeld := Below.refl v1.heap.size v1
  refine' wpAnyH_take (i := 11) (v := _) rfl (by kernel_rfl) (by kernel_rfl) (by kernel_rfl) (fun _ _ _ h => h) (Or.inl ⟨by rfl, ?hy11⟩) hHeld ?_
  case hy11 => (intro w hSw; (try dsimp only at hSw); go_simp; (try with_reducible rfl))
  (try simp only [Act.put, List.getElem_toArray, List.getElem_cons_succ, List.getElem_cons_zero, List.setIfInBounds_toArray, List.set_cons_zero, List.set_cons_succ])
  refine' wpAnyH_take (i := 17) (v := _) rfl (by kernel_rfl) (by kernel_rfl) (by kernel_rfl) (fun _ _ _ h => h) (Or.inl ⟨by rfl, ?hy17⟩) hHeld ?_
  case hy17 => (intro w hSw; (try dsimp only at hSw); go_simp; (try with_reducible rfl))
  (try simp only [Act.put, List.getElem_toArray, List.getElem_cons_succ, List.getElem_cons_zero, List.setIfInBounds_toArray, List.set_cons_zero, List.set_cons_succ])
  refine' wpAnyH_take (i := 18) (v := _) rfl (by kernel_rfl) (by kernel_rfl) (by kernel_rfl) (fun _ _ _ h => h) (Or.inl ⟨by rfl, ?hy18⟩) hHeld ?_
  case hy18 => (intro w hSw; (try dsimp only at hSw); go_simp; (try with_reducible rfl))
  (try simp only [Act.put, List.getElem_toArray, List.getElem_cons_succ, List.getElem_cons_zero, List.setIfInBounds_toArray, List.set_cons_zero, List.set_cons_succ])
  refine' wpAnyH_take (i := 19) (v := _) rfl (by kernel_rfl) (by kernel_rfl) (by kernel_rfl) (fun _ _ _ h => h) (Or.inl ⟨by rfl, ?hy19⟩) hHeld ?_
  case hy19 => (intro w hSw; (try dsimp only at hSw); go_simp; (try with_reducible rfl))
  (try simp only [Act.put, List.getElem_toArray, List.getElem_cons_succ, List.getElem_cons_zero, List.setIfInBounds_toArray, List.set_cons_zero, List.set_cons_succ])
  refine' wpAnyH_take (i := 20) (v := _) rfl (by kernel_rfl) (by kernel_rfl) (by kernel_rfl) (fun _ _ _ h => h) (Or.inl ⟨by rfl, ?hy20⟩) hHeld ?_
  case hy20 => (intro w hSw; (try dsimp only at hSw); go_simp; (try with_reducible rfl))
  (try simp only [Act.put, List.getElem_toArray, List.getElem_cons_succ, List.getElem_cons_zero, List.setIfInBounds_toArray, List.set_cons_zero, List.set_cons_succ])
  refine' wpAnyH_take (i := 22) (v := _) rfl (by kernel_rfl) (by kernel_rfl) (by kernel_rfl) (fun _ _ _ h => h) (Or.inl ⟨by rfl, ?hy22⟩) hHeld ?_
  case hy22 => (intro w hSw; (try dsimp only at hSw); go_simp; (try with_reducible rfl))
  (try simp only [Act.put, List.getElem_toArray, List.getElem_cons_succ, List.getElem_cons_zero, List.setIfInBounds_toArray, List.set_cons_zero, List.set_cons_succ])
  clear f1
  have HS2 := Lib.hid (show ∀ W, Below v1.heap.size v1 W → Below W0.heap.size W0 W from fun W h => HH1.out.trans (h.mono HH1.out.size))
  refine wpAnyH_ready (rs := [21]) (by kernel_rfl) (by simp) ?_
  refine AllReadyH.cons rfl (fun K hK => ?_) AllReadyH.nil
  go_simp
  (go_at_call 29; refine (HTU.out _ (HS2.out _ hHeld)).mono ?_; rintro e v3 ⟨A3, c3, rfl, ho3, hb3⟩)
  refine hK.out _ _ (hHeld.trans (hb3.mono hHeld.size)) (fun hHeld => ?_)
  clear hK K
  (try simp only [Act.put, List.getElem_toArray, List.getElem_cons_succ, List.getElem_cons_zero, List.setIfInBounds_toArray, List.set_cons_zero, List.set_cons_succ])
  have HO3 := Lib.hid (show ∀ W, Below v3.heap.size v3 W → Rd W W.heap.size A3 (nv L) from fun W hb => ((Rd.of_own ho3).below hb).more hb.size)
  clear ho3 hb3
  have HH3 := Lib.hid (HS2.out _ hHeld)
  refine wpAnyH_mono (S' := fun w' => Below v3.heap.size v3 w') (fun _ h => hHeld.trans (h.mono hHeld.size)) _ _ _ _ ?_
  replace hHeld := Below.refl v3.heap.size v3
  have HS3 := Lib.hid (show ∀ W, Below v3.heap.size v3 W → Below W0.heap.size W0 W from fun W h => HH3.out.trans (h.mono HH3.out.size))
  refine wpAnyH_ready (rs := [23]) (by kernel_rfl) (by simp) ?_
  refine AllReadyH.cons rfl (fun K hK => ?_) AllReadyH.nil
  go_simp
  (go_at_call 30; refine (HPG.out _ (HS3.out _ hHeld)).mono ?_; rintro e v4 ⟨A4, c4, rfl, ho4, hb4⟩)
  refine hK.out _ _ (hHeld.trans (hb4.mono hHeld.size)) (fun hHeld => ?_)
  clear hK K
  (try simp only [Act.put, List.getElem_toArray, List.getElem_cons_succ, List.getElem_cons_zero, List.setIfInBounds_toArray, List.set_cons_zero, List.set_cons_succ])
  have HO4 := Lib.hid ho4
  clear ho4 hb4
  refine wpAnyH_ready (rs := [24]) (by kernel_rfl) (by simp) ?_
  refine AllReadyH.cons rfl (fun K hK => ?_) AllReadyH.nil
  go_simp
  (go_at_call 28; refine (same_any A3 A4 ln c3 c4 L HLN.out.symm (by have := HL.out; omega) _ (HO3.out _ hHeld) (Rd.of_own HO4.out)).mono ?_; rintro e v5 ⟨rfl, hb5⟩)
  refine hK.out _ _ (hHeld.trans (hb5.mono hHeld.size)) (fun hHeld => ?_)
  clear hK K
  (try simp only [Act.put, List.getElem_toArray, List.getElem_cons_succ, List.getElem_cons_zero, List.setIfInBounds_toArray, List.set_cons_zero, List.set_cons_succ])
  clear HO3 HO4 hb5
  refine' wpAnyH_take (i := 25) (v := _) rfl (by kernel_rfl) (by kernel_rfl) (by kernel_rfl) (fun _ _ _ h => h) (Or.inl ⟨by rfl, ?hy25⟩) hHeld ?_
  case hy25 => (intro w hSw; (try dsimp only at hSw); go_simp; (try with_reducible rfl))
  (try simp only [Act.put, List.getElem_toArray, List.getElem_cons_succ, List.getElem_cons_zero, List.setIfInBounds_toArray, List.set_cons_zero, List.set_cons_succ])
  refine' wpAnyH_take (i := 26) (v := _) rfl (by kernel_rfl) (by kernel_rfl) (by kernel_rfl) (fun _ _ _ h => h) (Or.inl ⟨by rfl, ?hy26⟩) hHeld ?_
  case hy26 => (intro w hSw; (try dsimp only at hSw); go_simp; (try with_reducible rfl))
  (try simp only [Act.put, List.getElem_toArray, List.getElem_cons_succ, List.getElem_cons_zero, List.setIfInBounds_toArray, List.set_cons_zero, List.set_cons_succ])
  refine wpAnyH_done (by kernel_rfl) ?_ _
  have HF := Lib.hid (HS3.out _ hHeld)
  clear hHeld HS2 HS3
  go_wp2_with fail
  go_ret
  exact ⟨rfl, HP4.out.keep hBw HF.out⟩
end
end Go.Proofs.Ytoejpdhcibbgdaa

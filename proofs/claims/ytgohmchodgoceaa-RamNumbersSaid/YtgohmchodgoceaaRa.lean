/-
  A MEMORY BESIDE THE LAW's BYTES AND MARKS; innkeeperlaw7's alike: A CONTRACT.
-/
import Derived.Test.YtgohmchodgoceaaLw
import Derived.Test.YtgohmchodgoceaaLc
import Derived.Test.YtgohmchodgoceaaRh
namespace Go.Proofs.Ytgohmchodgoceaa
open Go.RowKit
set_option linter.unusedSimpArgs false
set_option linter.unusedVariables false

/-- a memory; the law's bytes at gb, its marks at gt -/
structure Dual (w0 : World) (B : Nat) (p : Bl) (gb gt : Nat) (w : World) (X : Rm) (F : Nat → Int) (G : Nat → Bool) : Prop where
  d : Me w0 B p w X
  b : IsB w gb (X.n * 64) F
  t : IsU w gt X.n G
  ob : p.Off gb
  ot : p.Off gt
  ne : gb ≠ gt
  lb : B ≤ gb
  lt : B ≤ gt
  k : ∀ i, i < w0.heap.size → p.Off i → gb ≠ i → gt ≠ i → w.heap[i]? = w0.heap[i]?
section
variable {w0 w w' : World} {B : Nat} {p : Bl} {gb gt : Nat} {X Y : Rm} {F F' : Nat → Int} {G G' : Nat → Bool}
theorem Dual.size (x : Dual w0 B p gb gt w X F G) (hB : B ≤ w0.heap.size) : B ≤ w.heap.size := Nat.le_trans hB x.d.b.size
theorem Dual.old (x : Dual w0 B p gb gt w X F G) {i : Nat} (h : i < w0.heap.size) : i < w.heap.size := Nat.lt_of_lt_of_le h x.d.b.size
theorem Dual.keep (x : Dual w0 B p gb gt w X F G) (hB : B ≤ w0.heap.size) (hb : Below w.heap.size w w') : Dual w0 B p gb gt w' X F G :=
  ⟨x.d.keep (x.size hB) hb, IsC.after x.b hb, IsC.after x.t hb, x.ob, x.ot, x.ne, x.lb, x.lt, fun i hi o h1 h2 => (hb.block i (x.old hi)).trans (x.k i hi o h1 h2)⟩
theorem Dual.left (x : Dual w0 B p gb gt w X F G) (hB : B ≤ w0.heap.size) (hn : Y.n = X.n) (hm : IsM w' p Y) (ha : Alt p w w') : Dual w0 B p gb gt w' Y F G :=
  ⟨x.d.left (x.size hB) hm ha, by rw [hn]; exact IsC.alt x.b ha x.ob.1.symm x.ob.2.2.1.symm x.ob.2.2.2.2.symm, by rw [hn]; exact IsC.alt x.t ha x.ot.1.symm x.ot.2.2.1.symm x.ot.2.2.2.2.symm, x.ob, x.ot, x.ne, x.lb, x.lt, fun i hi o h1 h2 => (ha.block i (x.old hi) o.1.symm o.2.2.1.symm o.2.2.2.2.symm).trans (x.k i hi o h1 h2)⟩
theorem Dual.setB (x : Dual w0 B p gb gt w X F G) (k : Nat) (v : Int) : Dual w0 B p gb gt (w.setCell ⟨gb, k, none⟩ (.int .u8 v)) X (upd F k v) G :=
  ⟨x.d.far x.ob x.lb k _, IsB.set x.b k v, IsC.far x.t (p := ⟨gb, k, none⟩) x.ne.symm _, x.ob, x.ot, x.ne, x.lb, x.lt, fun i hi o h1 h2 => (Below.heap_setCell _ _ _ _ h1.symm).trans (x.k i hi o h1 h2)⟩
theorem Dual.setT (x : Dual w0 B p gb gt w X F G) (k : Nat) (v : Bool) : Dual w0 B p gb gt (w.setCell ⟨gt, k, none⟩ (.bool v)) X F (upd G k v) :=
  ⟨x.d.far x.ot x.lt k _, IsC.far x.b (p := ⟨gt, k, none⟩) x.ne _, IsU.set x.t k v, x.ob, x.ot, x.ne, x.lb, x.lt, fun i hi o h1 h2 => (Below.heap_setCell _ _ _ _ h2.symm).trans (x.k i hi o h1 h2)⟩
theorem Dual.far {g : Nat} (x : Dual w0 B p gb gt w X F G) (hB : B ≤ w0.heap.size) (o : p.Off g) (h1 : gb ≠ g) (h2 : gt ≠ g) (hg : w0.heap.size ≤ g) (i : Nat) (v : Value) : Dual w0 B p gb gt (w.setCell ⟨g, i, none⟩ v) X F G :=
  ⟨x.d.far o (Nat.le_trans hB hg) i _, IsC.far x.b (p := ⟨g, i, none⟩) h1 _, IsC.far x.t (p := ⟨g, i, none⟩) h2 _, x.ob, x.ot, x.ne, x.lb, x.lt, fun j hj o h1 h2 => (Below.heap_setCell _ _ _ _ (show j ≠ g by omega)).trans (x.k j hj o h1 h2)⟩
theorem Dual.cast (x : Dual w0 B p gb gt w X F G) (h1 : ∀ j, j < X.n * 64 → F' j = F j) (h2 : ∀ j, j < X.n → G' j = G j) : Dual w0 B p gb gt w X F' G' :=
  ⟨x.d, IsB.cast x.b h1, IsU.cast x.t h2, x.ob, x.ot, x.ne, x.lb, x.lt, x.k⟩
/-- told since now -/
theorem Dual.now (x : Dual w0 B p gb gt w X F G) : Dual w B p gb gt w X F G :=
  ⟨⟨x.d.m, Below.refl _ _, x.d.f⟩, x.b, x.t, x.ob, x.ot, x.ne, x.lb, x.lt, fun _ _ _ _ _ => rfl⟩
theorem Dual.z (x : Dual w0 B p gb gt w X F G) : gb < w.heap.size ∧ gt < w.heap.size := ⟨IsC.lt x.b, IsC.lt x.t⟩
end
section
variable {p : Bl} {X : Rm} {w0 : World} {B gb gt : Nat}
set_option maxRecDepth 100000 in
set_option maxHeartbeats 4000000 in
theorem alike_any (w : World) (hB : B ≤ w0.heap.size) (hd : Dual w0 B p gb gt w X X.b X.tu) :
    Calls Try.prog 12 #[.pointer (some ⟨p.m, 0, none⟩), .slice (some ⟨gb, 0, none⟩) (X.n * 64) (X.n * 64), .slice (some ⟨gt, 0, none⟩) X.n X.n] w fun e w' => e = .returned (.bool true) ∧ Below w.heap.size w w' := by
  have HD := Lib.hid hd
  have hn1 := hd.d.m.n1
  have hM := hd.d.m
  have hal : ∀ W, Below w.heap.size w W → Calls Try.prog 25 #[.pointer (some ⟨p.m, 0, none⟩)] W (NewB X.b (X.n * 64) (fun A => .slice A (X.n * 64) (X.n * 64)) W) := fun W hb => allM_any W (hM.below hb)
  have hsz := fun W (hb : Below w.heap.size w W) => size_any W (hM.below hb)
  have htu := fun W (hb : Below w.heap.size w W) => turned_any W (hM.below hb)
  have hbd := fun j (hj : j < X.n * 64) => hM.bd j hj
  have hcv := fun W (hb : Below w.heap.size w W) => conv_B (IsC.after hd.b hb) hM.bd (X.n * 64)
  have htc := fun W (hb : Below w.heap.size w W) j (hj : j < X.n) => IsC.cell (IsC.after hd.t hb) j hj
  have hN0 : X.n * 64 ≤ 4096 := by omega
  generalize hNN : X.n * 64 = N at *
  generalize hnn : X.n = n at *
  have hwr : IntKind.i64.wrap (N : Int) = (N : Int) := IntWalk.i64_in _ (by omega)
  have HAL0 := Lib.hid hal
  have HSZ0 := Lib.hid hsz
  have HTU0 := Lib.hid htu
  have HBD := Lib.hid hbd
  have HCV := Lib.hid hcv
  have HTC := Lib.hid htc
  clear hd hM hal hsz htu hbd hcv htc hNN hnn
  go_enter Try.func12, Try.ntmps12
  go_wp2_with fail
  go_loopw [7, 8] (fun v i wr => ∃ (k : Nat) (A : Option Addr) (c ln : Nat), k ≤ n ∧ ln ≤ 64 ∧ i = .int .i64 k ∧ v = .slice A ln c ∧ Hid (ln = (tuL X.tu k).length) ∧ Hid (wr.ownsRow w.heap.size 3 1 (.slice A ln c) ln (nv (tuL X.tu k))) ∧ Hid (Below w.heap.size w wr)) (fun _ i _ => n - (intOf i).toNat)
  case atStart => exact ⟨0, none, 0, 0, by omega, by omega, rfl, rfl, Lib.hid rfl, World.ownsRow_nil _ _ _ _, Below.refl _ _⟩
  case round =>
    obtain ⟨k, A, c, ln, hk, hln, rfl, rfl, hNL, hO, hB⟩ := hrel
    have hz := hB.out.size
    by_cases hlt : k < n
    · have c1 := HTC.out _ hB.out k hlt
      have hs := tuL_succ X.tu k
      have hle := tuL_le X.tu k
      have k0 : (0 : Int) ≤ (k : Int) := by omega
      have hki : (k : Int) < (n : Int) := by omega
      cases hb : X.tu k
      · rw [hb] at hs c1
        simp only [Bool.false_eq_true, if_false, List.append_nil] at hs
        have HS := Lib.hid hs
        clear hs hb hle
        go_wp2
        go_roundw
        case rel => exact ⟨k + 1, A, c, ln, by omega, hln, by go_num, rfl, by rw [HS.out]; exact hNL, by rw [HS.out]; exact hO, hB⟩
        case measure => simp [intOf]; omega
      · rw [hb] at hs c1
        simp only [if_true] at hs
        have HS := Lib.hid hs
        have HNN := Lib.hid (show ln + 1 ≤ 64 by have := hNL.out; omega)
        clear hs hb hle
        have HO1 := Lib.hid (hO.out.alloc (.cells #[.int .i64 k] 3))
        go_wp2_with (at_builtin
                     refine wpList_app rfl (.tmp 19) (.tmp 21) _ rfl w.heap.size 3 _ 1 8 Try.underlying48 Try.info_int rfl (by omega) (.slice A ln c) ln (nv (tuL X.tu k)) rfl HO1.out wr.heap.size 1 1 _ _ _ rfl (heap_alloc_new wr (.cells #[.int .i64 k] 3)) rfl (by simp [Value.oneCell']) (by omega) (by unfold maxLen; omega) (by omega) (by simp; omega) ?_
                     intro g2 cap2 w2 hext2
                     have HX2 := Lib.hid hext2
                     clear hext2)
        go_roundw
        case rel =>
          refine ⟨k + 1, some ⟨g2, 0, none⟩, cap2, ln + 1, by omega, HNN.out, by go_num, rfl, ?_, ?_, ?_⟩
          · rw [HS.out, List.length_append]; exact Lib.hid (by rw [hNL.out]; rfl)
          · apply Lib.hid
            have h := HX2.out.own
            rw [HS.out, nv_append]
            simpa [nv] using h
          · exact Lib.hid ((hB.out.alloc hz _).trans (HX2.out.below (by simp; omega) HO1.out))
        case measure => simp [intOf]; omega
    · obtain rfl : k = n := by omega
      have HLN := Lib.hid hNL.out
      have HRW := Lib.hid (fun W (hb : Below wr.heap.size wr W) => ((Rd.of_own hO.out).below hb).more hb.size)
      have hN' := hNL.out
      have HB0 := Lib.hid hB.out
      have hal : ∀ W, Below wr.heap.size wr W → Calls Try.prog 25 #[.pointer (some ⟨p.m, 0, none⟩)] W (NewB X.b N (fun A => .slice A N N) W) := fun W hb => HAL0.out W (hB.out.trans (hb.mono hz))
      have hsz := fun W (hb : Below wr.heap.size wr W) => HSZ0.out W (hB.out.trans (hb.mono hz))
      have htu := fun W (hb : Below wr.heap.size wr W) => HTU0.out W (hB.out.trans (hb.mono hz))
      have f0 := fun W (hb : Below wr.heap.size wr W) => HCV.out W (hB.out.trans (hb.mono hz))
      generalize hSS : strL (rowL X.b N) = S1 at *
      have HSS := Lib.hid hSS
      generalize tuL X.tu k = L at *
      have HAL := Lib.hid hal
      have HSZ := Lib.hid hsz
      have HTU := Lib.hid htu
      unfold NewB at HAL
      unfold NewL at HTU
      rw [← hN'] at HTU
      obtain ⟨W0, rfl⟩ : ∃ W0, W0 = wr := ⟨_, rfl⟩
      clear hk hlt hal hsz htu hSS hO hNL hN' HAL0 HSZ0 HTU0 HCV HTC HD hB
      go_wp2_with fail
      have hst : Below W0.heap.size W0 W0.drew := (Below.refl _ _).drew
      refine wp_region_held_drew (S := fun w' => Below W0.heap.size W0 w') (by kernel_rfl) hst (fun hHeld => ?_)
      try dsimp only
      refine' wpAnyH_take (i := 0) (v := _) rfl (by kernel_rfl) (by kernel_rfl) (by kernel_rfl) (fun _ _ _ h => h) (Or.inl ⟨by rfl, ?hy0⟩) hHeld ?_
      case hy0 => (intro w hSw; (try dsimp only at hSw); go_simp; (try with_reducible rfl))
      (try simp only [Act.put, List.getElem_toArray, List.getElem_cons_succ, List.getElem_cons_zero, List.setIfInBounds_toArray, List.set_cons_zero, List.set_cons_succ])
      refine' wpAnyH_take (i := 3) (v := _) rfl (by kernel_rfl) (by kernel_rfl) (by kernel_rfl) (fun _ _ _ h => h) (Or.inl ⟨by rfl, ?hy3⟩) hHeld ?_
      case hy3 => (intro w hSw; (try dsimp only at hSw); go_simp; (try with_reducible rfl))
      (try simp only [Act.put, List.getElem_toArray, List.getElem_cons_succ, List.getElem_cons_zero, List.setIfInBounds_toArray, List.set_cons_zero, List.set_cons_succ])
      refine' wpAnyH_take (i := 4) (v := _) rfl (by kernel_rfl) (by kernel_rfl) (by kernel_rfl) (fun _ _ _ h => h) (Or.inl ⟨by rfl, ?hy4⟩) hHeld ?_
      case hy4 => (intro w hSw; (try dsimp only at hSw); go_simp; (try with_reducible rfl))
      (try simp only [Act.put, List.getElem_toArray, List.getElem_cons_succ, List.getElem_cons_zero, List.setIfInBounds_toArray, List.set_cons_zero, List.set_cons_succ])
      refine wpAnyH_ready (rs := [1]) (by kernel_rfl) (by simp) ?_
      refine AllReadyH.cons rfl (fun K hK => ?_) AllReadyH.nil
      go_simp
      (go_at_call 25; refine (HAL.out _ hHeld).mono ?_; rintro e v1 ⟨ga, rfl, hga, hBa, hba⟩)
      refine hK.out _ _ (hHeld.trans (hba.mono hHeld.size)) (fun hHeld => ?_)
      clear hK K
      (try simp only [Act.put, List.getElem_toArray, List.getElem_cons_succ, List.getElem_cons_zero, List.setIfInBounds_toArray, List.set_cons_zero, List.set_cons_succ])
      have f1 := fun W (hb : Below v1.heap.size v1 W) => conv_B (IsC.after hBa hb) HBD.out N
      rw [HSS.out] at f1
      have HH1 := Lib.hid hHeld
      clear HAL hBa hba f0
      refine wpAnyH_mono (S' := fun w' => Below v1.heap.size v1 w') (fun _ h => HH1.out.trans (h.mono HH1.out.size)) _ _ _ _ ?_
      replace hHeld := Below.refl v1.heap.size v1
      refine' wpAnyH_take (i := 2) (v := _) rfl (by kernel_rfl) (by kernel_rfl) (by kernel_rfl) (fun _ _ _ h => h) (Or.inl ⟨by rfl, ?hy2⟩) hHeld ?_
      case hy2 => (intro w hSw; (try dsimp only at hSw); go_simp; (try with_reducible rfl))
      (try simp only [Act.put, List.getElem_toArray, List.getElem_cons_succ, List.getElem_cons_zero, List.setIfInBounds_toArray, List.set_cons_zero, List.set_cons_succ])
      refine' wpAnyH_take (i := 5) (v := _) rfl (by kernel_rfl) (by kernel_rfl) (by kernel_rfl) (fun _ _ _ h => h) (Or.inl ⟨by rfl, ?hy5⟩) hHeld ?_
      case hy5 => (intro w hSw; (try dsimp only at hSw); go_simp; (try with_reducible rfl))
      (try simp only [Act.put, List.getElem_toArray, List.getElem_cons_succ, List.getElem_cons_zero, List.setIfInBounds_toArray, List.set_cons_zero, List.set_cons_succ])
      refine' wpAnyH_take (i := 6) (v := _) rfl (by kernel_rfl) (by kernel_rfl) (by kernel_rfl) (fun _ _ _ h => h) (Or.inl ⟨by rfl, ?hy6⟩) hHeld ?_
      case hy6 => (intro w hSw; (try dsimp only at hSw); go_simp; (try with_reducible rfl))
      (try simp only [Act.put, List.getElem_toArray, List.getElem_cons_succ, List.getElem_cons_zero, List.setIfInBounds_toArray, List.set_cons_zero, List.set_cons_succ])
      refine' wpAnyH_take (i := 7) (v := _) rfl (by kernel_rfl) (by kernel_rfl) (by kernel_rfl) (fun _ _ _ h => h) (Or.inl ⟨by rfl, ?hy7⟩) hHeld ?_
      case hy7 => (intro w hSw; (try dsimp only at hSw); go_simp; (try with_reducible rfl))
      (try simp only [Act.put, List.getElem_toArray, List.getElem_cons_succ, List.getElem_cons_zero, List.setIfInBounds_toArray, List.set_cons_zero, List.set_cons_succ])
      refine' wpAnyH_take (i := 10) (v := _) rfl (by kernel_rfl) (by kernel_rfl) (by kernel_rfl) (fun _ _ _ h => h) (Or.inl ⟨by rfl, ?hy10⟩) hHeld ?_
      case hy10 => (intro w hSw; (try dsimp only at hSw); go_simp; (try with_reducible rfl))
      (try simp only [Act.put, List.getElem_toArray, List.getElem_cons_succ, List.getElem_cons_zero, List.setIfInBounds_toArray, List.set_cons_zero, List.set_cons_succ])
      refine' wpAnyH_take (i := 11) (v := _) rfl (by kernel_rfl) (by kernel_rfl) (by kernel_rfl) (fun _ _ _ h => h) (Or.inl ⟨by rfl, ?hy11⟩) hHeld ?_
      case hy11 => (intro w hSw; (try dsimp only at hSw); go_simp; (try with_reducible rfl))
      (try simp only [Act.put, List.getElem_toArray, List.getElem_cons_succ, List.getElem_cons_zero, List.setIfInBounds_toArray, List.set_cons_zero, List.set_cons_succ])
      clear f1
      have HS2 := Lib.hid (show ∀ W, Below v1.heap.size v1 W → Below W0.heap.size W0 W from fun W h => HH1.out.trans (h.mono HH1.out.size))
      refine wpAnyH_ready (rs := [8]) (by kernel_rfl) (by simp) ?_
      refine AllReadyH.cons rfl (fun K hK => ?_) AllReadyH.nil
      go_simp
      (go_at_call 34; refine (HSZ.out _ (HS2.out _ hHeld)).mono ?_; rintro e v2 ⟨rfl, rfl⟩)
      refine hK.out _ _ (hHeld) (fun hHeld => ?_)
      clear hK K
      (try simp only [Act.put, List.getElem_toArray, List.getElem_cons_succ, List.getElem_cons_zero, List.setIfInBounds_toArray, List.set_cons_zero, List.set_cons_succ])
      refine' wpAnyH_take (i := 9) (v := _) rfl (by kernel_rfl) (by kernel_rfl) (by kernel_rfl) (fun _ _ _ h => h) (Or.inl ⟨by rfl, ?hy9⟩) hHeld ?_
      case hy9 => (intro w hSw; (try dsimp only at hSw); go_simp; (try with_reducible rfl))
      (try simp only [Act.put, List.getElem_toArray, List.getElem_cons_succ, List.getElem_cons_zero, List.setIfInBounds_toArray, List.set_cons_zero, List.set_cons_succ])
      refine' wpAnyH_take (i := 12) (v := _) rfl (by kernel_rfl) (by kernel_rfl) (by kernel_rfl) (fun _ _ _ h => h) (Or.inl ⟨by rfl, ?hy12⟩) hHeld ?_
      case hy12 => (intro w hSw; (try dsimp only at hSw); go_simp; (try with_reducible rfl))
      (try simp only [Act.put, List.getElem_toArray, List.getElem_cons_succ, List.getElem_cons_zero, List.setIfInBounds_toArray, List.set_cons_zero, List.set_cons_succ])
      refine' wpAnyH_take (i := 13) (v := _) rfl (by kernel_rfl) (by kernel_rfl) (by kernel_rfl) (fun _ _ _ h => h) (Or.inl ⟨by rfl, ?hy13⟩) hHeld ?_
      case hy13 => (intro w hSw; (try dsimp only at hSw); go_simp; (try with_reducible rfl))
      (try simp only [Act.put, List.getElem_toArray, List.getElem_cons_succ, List.getElem_cons_zero, List.setIfInBounds_toArray, List.set_cons_zero, List.set_cons_succ])
      refine' wpAnyH_take (i := 14) (v := _) rfl (by kernel_rfl) (by kernel_rfl) (by kernel_rfl) (fun _ _ _ h => h) (Or.inl ⟨by rfl, ?hy14⟩) hHeld ?_
      case hy14 => (intro w hSw; (try dsimp only at hSw); go_simp; (try with_reducible rfl))
      (try simp only [Act.put, List.getElem_toArray, List.getElem_cons_succ, List.getElem_cons_zero, List.setIfInBounds_toArray, List.set_cons_zero, List.set_cons_succ])
      refine' wpAnyH_take (i := 15) (v := _) rfl (by kernel_rfl) (by kernel_rfl) (by kernel_rfl) (fun _ _ _ h => h) (Or.inl ⟨by rfl, ?hy15⟩) hHeld ?_
      case hy15 => (intro w hSw; (try dsimp only at hSw); go_simp; (try with_reducible rfl))
      (try simp only [Act.put, List.getElem_toArray, List.getElem_cons_succ, List.getElem_cons_zero, List.setIfInBounds_toArray, List.set_cons_zero, List.set_cons_succ])
      refine' wpAnyH_take (i := 17) (v := _) rfl (by kernel_rfl) (by kernel_rfl) (by kernel_rfl) (fun _ _ _ h => h) (Or.inl ⟨by rfl, ?hy17⟩) hHeld ?_
      case hy17 => (intro w hSw; (try dsimp only at hSw); go_simp; (try with_reducible rfl))
      (try simp only [Act.put, List.getElem_toArray, List.getElem_cons_succ, List.getElem_cons_zero, List.setIfInBounds_toArray, List.set_cons_zero, List.set_cons_succ])
      refine wpAnyH_ready (rs := [16]) (by kernel_rfl) (by simp) ?_
      refine AllReadyH.cons rfl (fun K hK => ?_) AllReadyH.nil
      go_simp
      (go_at_call 27; refine (HTU.out _ (HS2.out _ hHeld)).mono ?_; rintro e v3 ⟨A3, c3, rfl, ho3, hb3⟩)
      refine hK.out _ _ (hHeld.trans (hb3.mono hHeld.size)) (fun hHeld => ?_)
      clear hK K
      (try simp only [Act.put, List.getElem_toArray, List.getElem_cons_succ, List.getElem_cons_zero, List.setIfInBounds_toArray, List.set_cons_zero, List.set_cons_succ])
      have HO3 := Lib.hid ho3
      clear ho3 hb3
      refine wpAnyH_ready (rs := [18]) (by kernel_rfl) (by simp) ?_
      refine AllReadyH.cons rfl (fun K hK => ?_) AllReadyH.nil
      go_simp
      (go_at_call 26; refine (same_any A3 A ln c3 c L HLN.out (by omega) _ (Rd.of_own HO3.out) (HRW.out _ (HS2.out _ hHeld))).mono ?_; rintro e v5 ⟨rfl, hb5⟩)
      refine hK.out _ _ (hHeld.trans (hb5.mono hHeld.size)) (fun hHeld => ?_)
      clear hK K
      (try simp only [Act.put, List.getElem_toArray, List.getElem_cons_succ, List.getElem_cons_zero, List.setIfInBounds_toArray, List.set_cons_zero, List.set_cons_succ])
      clear HO3 hb5
      refine' wpAnyH_take (i := 19) (v := _) rfl (by kernel_rfl) (by kernel_rfl) (by kernel_rfl) (fun _ _ _ h => h) (Or.inl ⟨by rfl, ?hy19⟩) hHeld ?_
      case hy19 => (intro w hSw; (try dsimp only at hSw); go_simp; (try with_reducible rfl))
      (try simp only [Act.put, List.getElem_toArray, List.getElem_cons_succ, List.getElem_cons_zero, List.setIfInBounds_toArray, List.set_cons_zero, List.set_cons_succ])
      refine' wpAnyH_take (i := 20) (v := _) rfl (by kernel_rfl) (by kernel_rfl) (by kernel_rfl) (fun _ _ _ h => h) (Or.inl ⟨by rfl, ?hy20⟩) hHeld ?_
      case hy20 => (intro w hSw; (try dsimp only at hSw); go_simp; (try with_reducible rfl))
      (try simp only [Act.put, List.getElem_toArray, List.getElem_cons_succ, List.getElem_cons_zero, List.setIfInBounds_toArray, List.set_cons_zero, List.set_cons_succ])
      refine wpAnyH_done (by kernel_rfl) ?_ _
      have HF := Lib.hid (HS2.out _ hHeld)
      clear hHeld HS2
      go_wp2_with fail
      go_ret
      exact ⟨rfl, HB0.out.trans (HF.out.mono hz)⟩
end
end Go.Proofs.Ytgohmchodgoceaa

/-
  innkeeperlaw7's do: A CONTRACT.
-/
import Derived.Test.YtgohmchodgoceaaRa
import Derived.Test.YtgohmchodgoceaaRu
import Derived.Test.YtgohmchodgoceaaRd1
import Derived.Test.YtgohmchodgoceaaRq
import Derived.Deep.RegionHeld3
import Derived.Deep.CutBlock
import Derived.Deep.OwnRows
import Derived.Outline
namespace Go.Proofs.Ytgohmchodgoceaa
open Go.RowKit
set_option linter.unusedSimpArgs false
set_option linter.unusedVariables false

section
variable {p : Bl} {X : Rm} {w0 : World} {B gb gt : Nat}
set_option maxRecDepth 100000 in
set_option maxHeartbeats 16000000 in
theorem do_any (k v : Int) (a : Nat) (A : Option Addr) (len cap : Nat) (L : List Int) (ha : a < 4294967296) (hv : 0 ≤ v ∧ v < 4294967296) (hlen : len = L.length) (hcl : len ≤ 140737488355328) (hL : ∀ x ∈ L, 0 ≤ x ∧ x < 256) (w : World) (hB : B ≤ w0.heap.size) (hd : Dual w0 B p gb gt w X X.b X.tu) (hR : RdO w p gb gt A (ub L)) :
    Calls Try.prog 11 #[.pointer (some ⟨p.m, 0, none⟩), .pointer (some ⟨p.h, 0, none⟩), .slice (some ⟨gb, 0, none⟩) (X.n * 64) (X.n * 64), .slice (some ⟨gt, 0, none⟩) X.n X.n, .agg (askQ k a v A len cap)] w (Done w0 B p gb gt X.n) := by
  have hn1 := hd.d.m.n1
  have hzs := hd.size hB
  have hq := qst_new hB hd hR k a v A len cap
  have HQ := Lib.hid hq
  have HL := Lib.hid (And.intro hlen hL)
  have HB := Lib.hid hB
  have HXN := Lib.hid (rfl : X.n = X.n)
  obtain ⟨n, hn⟩ : ∃ n, X.n = n := ⟨_, rfl⟩
  obtain ⟨N, hN⟩ : ∃ N, X.n * 64 = N := ⟨_, rfl⟩
  have HN := Lib.hid (And.intro hn hN)
  rw [hN, hn]
  have hN1 : 64 ≤ N := by omega
  have hN2 : N ≤ 4096 := by omega
  have HN3 := Lib.hid (show N = n * 64 by omega)
  have hn64 : n ≤ 64 := by omega
  unfold Done askQ at *
  clear hd hR hq hlen hL hB hzs HXN hn hN
  go_enter Try.func11, Try.ntmps11
  go_upto_block 0 with fail
  go_cut [12, 13, 14, 15, 16, 17, 18, 19] from 29 to 205 (fun s12 s13 s14 s15 s16 s17 s18 s19 wx => ∃ Y : Rm, Hid (Y.n = n) ∧ Hid (Qst w0 B p gb gt w.heap.size k a v A len cap L wx Y Y.b Y.tu))
  case first =>
    generalize w.alloc (.cells #[.int .i64 k, .int .u32 a, .int .u32 v, .slice A len cap] 33) = W at *
    generalize w.heap.size = x at *
    have c1 : W.cell? ⟨x, 1, none⟩ = some (.int .u32 a) := HQ.out.q.cell 1
    have c2 : W.cell? ⟨x, 2, none⟩ = some (.int .u32 v) := HQ.out.q.cell 2
    have c3 : W.cell? ⟨x, 3, none⟩ = some (.slice A len cap) := HQ.out.q.cell 3
    have hzx := HQ.out.q.lt
    have hM := HQ.out.d.d.m
    by_cases k1 : k = 1
    · as_aux_lemma =>
        subst k1
        have hpt := putM_any a ha (v % 256) (by omega) W.drew (hM.drewN 1)
        rw [(HN.out).2] at hpt
        by_cases hlt : a < N
        · rw [decide_eq_true hlt] at hpt
          have i1 : (a : Int) < (N : Int) := by omega
          have hY1 := put1_b X a (v % 256) (by rw [HN.out.2]; exact hlt)
          have hY2 := put1_tu X a (v % 256) (by rw [HN.out.2]; exact hlt)
          have hYn := put_n X a [v % 256]
          have HP := Lib.hid hpt
          have HY := Lib.hid (And.intro hY1 (And.intro hY2 hYn))
          generalize X.putS a [v % 256] = Y at *
          obtain ⟨q, hq⟩ : ∃ q : Nat, (a : Int) / 64 = q := ⟨a / 64, by omega⟩
          have hq2 : a / 64 = q := by omega
          have hqn : q < n := by have := HN3.out; omega
          have i2 : (0 : Int) ≤ (q : Int) := by omega
          have i3 : (q : Int) < (n : Int) := by omega
          have hox := HQ.out.o
          unfold Left at HP
          clear hpt hY1 hY2 hYn hM
          go_wp2_with fail
          go_region_held3 (fun w' => w'.cell? ⟨x, 1, none⟩ = some (.int .u32 a) ∧ w'.cell? ⟨x, 2, none⟩ = some (.int .u32 v))
            (first
              | exact ⟨c1, c2⟩
              | exact ⟨(ha2.cell (a := ⟨x, 1, none⟩) hzx hox.1.symm hox.2.2.1.symm hox.2.2.2.2.symm).trans c1, (ha2.cell (a := ⟨x, 2, none⟩) hzx hox.1.symm hox.2.2.1.symm hox.2.2.2.2.symm).trans c2⟩)
            ((go_at_call 19; refine HP.out.mono ?_; rintro e w2 ⟨rfl, hm2, ha2⟩))
          have HQ2 := Lib.hid ((HQ.out.keep HB.out (Below_drewN (Below.refl _ _) 1)).left HB.out HY.out.2.2 hm2 ha2)
          have d1 : w2.cell? ⟨x, 1, none⟩ = some (.int .u32 a) := HQ2.out.q.cell 1
          have d2 : w2.cell? ⟨x, 2, none⟩ = some (.int .u32 v) := HQ2.out.q.cell 2
          have d3 := IsC.cell HQ2.out.d.b a (by rw [HY.out.2.2, HN.out.2]; exact hlt)
          have d4 := IsC.frozen HQ2.out.d.b a
          have d5 := IsC.cell HQ2.out.d.t q (by rw [HY.out.2.2, HN.out.1]; exact hqn)
          have d6 := IsC.frozen HQ2.out.d.t q
          have n1 : ¬ gb = x := HQ2.out.xb
          have n2 : ¬ gt = x := HQ2.out.xt
          have n3 : ¬ gb = gt := HQ2.out.d.ne
          have n4 : ¬ gt = gb := HQ2.out.d.ne.symm
          have n5 : ¬ x = gb := HQ2.out.xb.symm
          generalize X.b a = o1 at *
          generalize X.tu q = o2 at *
          clear hm2 ha2 HP c1 c2 c3
          go_wp2_with fail
          go_meet
          case rel =>
            refine ⟨Y, Lib.hid (HY.out.2.2.trans HN.out.1), ?_⟩
            rw [HY.out.1, HY.out.2.1, hq2]
            exact Lib.hid ((HQ2.out.setB a (v % 256)).setT q true)
        · rw [decide_eq_false hlt] at hpt
          have i1 : (N : Int) ≤ (a : Int) := by omega
          have i2 : decide ((a : Int) < (N : Int)) = false := by simp; omega
          have e : X.putS a [v % 256] = X := if_neg (show ¬ a + [v % 256].length ≤ X.n * 64 by rw [HN.out.2]; exact hlt)
          rw [e] at hpt
          have HP := Lib.hid hpt
          have hox := HQ.out.o
          unfold Left at HP
          clear hpt hM e hlt
          go_wp2_with fail
          go_region_held3 (fun w' => w'.cell? ⟨x, 1, none⟩ = some (.int .u32 a) ∧ w'.cell? ⟨x, 2, none⟩ = some (.int .u32 v))
            (first
              | exact ⟨c1, c2⟩
              | exact ⟨(ha2.cell (a := ⟨x, 1, none⟩) hzx hox.1.symm hox.2.2.1.symm hox.2.2.2.2.symm).trans c1, (ha2.cell (a := ⟨x, 2, none⟩) hzx hox.1.symm hox.2.2.1.symm hox.2.2.2.2.symm).trans c2⟩)
            ((go_at_call 19; refine HP.out.mono ?_; rintro e w2 ⟨rfl, hm2, ha2⟩))
          have HQ2 := Lib.hid ((HQ.out.keep HB.out (Below_drewN (Below.refl _ _) 1)).left HB.out rfl hm2 ha2)
          have d1 : w2.cell? ⟨x, 1, none⟩ = some (.int .u32 a) := HQ2.out.q.cell 1
          clear hm2 ha2 HP c1 c2 c3
          go_wp2_with fail
          go_meet
          case rel => exact ⟨X, Lib.hid HN.out.1, HQ2⟩
    have k1b : (k == 1) = false := by simpa using k1
    by_cases k2 : k = 2
    · as_aux_lemma =>
        subst k2
        have hpt := putWord_any a ha v hv W hM
        rw [(HN.out).2] at hpt
        by_cases hlt : a + 4 ≤ N
        · rw [decide_eq_true hlt] at hpt
          have i1 : (a : Int) ≤ (N : Int) - 4 := by omega
          have i4 : (a : Int) + 4 ≤ (N : Int) := by omega
          obtain ⟨e1, e2, _, e4⟩ := word_bytes X a v (by rw [HN.out.2]; exact hlt) hv
          have HP := Lib.hid hpt
          have HY := Lib.hid (And.intro e1 (And.intro e2 e4))
          generalize X.putS a (w4 v) = Y at *
          unfold Left at HP
          clear hpt hM e1 e2 e4 k1 k1b
          go_wp2_with (go_at_call 23; refine HP.out.mono ?_; rintro e w2 ⟨rfl, hm2, ha2⟩
                       have HQ2 := Lib.hid (HQ.out.left HB.out HY.out.2.2 hm2 ha2)
                       have d1 : w2.cell? ⟨x, 1, none⟩ = some (.int .u32 a) := HQ2.out.q.cell 1
                       clear hm2 ha2 HP c1 c2 c3)
          go_loopw [13] (fun i wr => ∃ j : Nat, j ≤ 4 ∧ i = .int .u32 j ∧ Hid (Qst w0 B p gb gt x 2 a v A len cap L wr Y (p4 X a v j).b (p4 X a v j).tu)) (fun i _ => 4 - (intOf i).toNat)
          case atStart => exact ⟨0, by omega, rfl, HQ2⟩
          case round =>
            clear HQ2 d1
            obtain ⟨j, hj, rfl, hQ⟩ := hrel
            have d1 : wr.cell? ⟨x, 1, none⟩ = some (.int .u32 a) := hQ.out.q.cell 1
            by_cases hlj : j < 4
            · have d2 : wr.cell? ⟨x, 2, none⟩ = some (.int .u32 v) := hQ.out.q.cell 2
              obtain ⟨s, hs⟩ : ∃ s : Nat, a + j = s := ⟨_, rfl⟩
              have hsI : (a : Int) + (j : Int) = (s : Int) := by omega
              have hsN : s < N := by omega
              obtain ⟨q, hq⟩ : ∃ q : Nat, (s : Int) / 64 = q := ⟨s / 64, by omega⟩
              have hq2 : s / 64 = q := by omega
              have hqn : q < n := by have := HN3.out; omega
              have i2 : (0 : Int) ≤ (q : Int) := by omega
              have i3 : (q : Int) < (n : Int) := by omega
              have i5 : (s : Int) < (N : Int) := by omega
              have d3 := IsC.cell hQ.out.d.b s (by rw [HY.out.2.2, HN.out.2]; exact hsN)
              have d4 := IsC.frozen hQ.out.d.b s
              have d5 := IsC.cell hQ.out.d.t q (by rw [HY.out.2.2, HN.out.1]; exact hqn)
              have d6 := IsC.frozen hQ.out.d.t q
              have n1 : ¬ gb = x := hQ.out.xb
              have n2 : ¬ gt = x := hQ.out.xt
              have n3 : ¬ gb = gt := hQ.out.d.ne
              have n4 : ¬ gt = gb := hQ.out.d.ne.symm
              have n5 : ¬ x = gb := hQ.out.xb.symm
              have hst := (hQ.out.setB s ((w4 v).getD j 0)).setT q true
              have hb1 := put1_b (p4 X a v j) (a + j) ((w4 v).getD j 0) (by rw [p4_n, HN.out.2]; omega)
              have hb2 := put1_tu (p4 X a v j) (a + j) ((w4 v).getD j 0) (by rw [p4_n, HN.out.2]; omega)
              rw [hs] at hb1 hb2
              rw [hq2] at hb2
              have e1 : (p4 X a v j).putS s [(w4 v).getD j 0] = p4 X a v (j + 1) := by rw [← hs]; rfl
              rw [e1] at hb1 hb2
              rw [← hb1, ← hb2] at hst
              have HST := Lib.hid hst
              generalize (p4 X a v j).b s = o1 at *
              generalize (p4 X a v j).tu q = o2 at *
              clear hst hb1 hb2 e1 hs
              rcases (show j = 0 ∨ j = 1 ∨ j = 2 ∨ j = 3 by omega) with rfl | rfl | rfl | rfl
              all_goals
                simp only [w4, List.getD_cons_zero, List.getD_cons_succ] at HST
                simp only [Int.cast_ofNat_Int, Int.add_zero] at hsI
                go_wp2_with fail
                first
                  | exact ⟨⟨1, by omega, rfl, HST⟩, by simp [intOf]⟩
                  | exact ⟨⟨2, by omega, rfl, HST⟩, by simp [intOf]⟩
                  | exact ⟨⟨3, by omega, rfl, HST⟩, by simp [intOf]⟩
                  | exact ⟨⟨4, by omega, rfl, HST⟩, by simp [intOf]⟩
            · obtain rfl : j = 4 := by omega
              have hQ2 : Hid (Qst w0 B p gb gt x 2 a v A len cap L wr Y Y.b Y.tu) := by
                rw [HY.out.1, HY.out.2.1]; exact hQ
              go_wp2_with fail
              go_meet
              case rel => exact ⟨Y, Lib.hid (HY.out.2.2.trans HN.out.1), hQ2⟩
        · rw [decide_eq_false hlt] at hpt
          have i1 : ¬ (a : Int) ≤ (N : Int) - 4 := by omega
          have i2 : decide ((a : Int) ≤ (N : Int) - 4) = false := by simp; omega
          have e : X.putS a (w4 v) = X := if_neg (show ¬ a + (w4 v).length ≤ X.n * 64 by rw [HN.out.2]; exact hlt)
          rw [e] at hpt
          have HP := Lib.hid hpt
          unfold Left at HP
          clear hpt hM e hlt k1 k1b
          go_wp2_with (go_at_call 23; refine HP.out.mono ?_; rintro e w2 ⟨rfl, hm2, ha2⟩
                       have HQ2 := Lib.hid (HQ.out.left HB.out rfl hm2 ha2)
                       have d1 : w2.cell? ⟨x, 1, none⟩ = some (.int .u32 a) := HQ2.out.q.cell 1
                       clear hm2 ha2 HP c1 c2 c3)
          go_loopw [13] (fun i wr => i = .int .u32 0 ∧ Hid (Qst w0 B p gb gt x 2 a v A len cap L wr X X.b X.tu)) (fun i _ => 0)
          case atStart => exact ⟨rfl, HQ2⟩
          case round =>
            clear HQ2
            obtain ⟨rfl, hQ⟩ := hrel
            go_wp2_with fail
            go_meet
            case rel => exact ⟨X, Lib.hid HN.out.1, hQ⟩
    have k2b : (k == 2) = false := by simpa using k2
    by_cases k3 : k = 3
    · as_aux_lemma =>
        subst k3
        obtain ⟨pg, hpg⟩ : ∃ pg : Nat, (a : Int) % 70 = pg := ⟨a % 70, by omega⟩
        have hpg70 : pg < 70 := by omega
        have hpt := putPage_any (pg : Int) A len cap L HL.out.1 hcl HL.out.2 W hM HQ.out.r.rdM
        have hcl2 : (len : Int) ≤ 140737488355328 := by omega
        by_cases hok : pg < n ∧ len = 64
        · obtain ⟨h1, h2⟩ := hok
          have hkX : pg < X.n := by rw [HN.out.1]; exact h1
          have hL64 : L.length = 64 := by rw [← HL.out.1]; exact h2
          have hYn := pgs_n X (pg : Int) L
          have hYb := pgs_b hkX hL64
          have hYt := pgs_tu hkX hL64
          rw [show X.pgV (pg : Int) len = true by simp [Rm.pgV, Rm.pB, h2]; omega] at hpt
          generalize X.pgS (pg : Int) L = Y at *
          obtain ⟨t, ht⟩ : ∃ t : Nat, pg * 64 = t := ⟨_, rfl⟩
          have htI : (pg : Int) * 64 = (t : Int) := by omega
          have hw1 : IntKind.i64.wrap ((pg : Int) * 64) = (t : Int) := by rw [htI]; exact IntWalk.i64_in _ (by omega)
          have hw2 : IntKind.i64.wrap (t : Int) = (t : Int) := IntWalk.i64_in _ (by omega)
          have htN : t < N := by have := HN3.out; omega
          have htN2 : t + 64 ≤ N := by have := HN3.out; omega
          have hsl := slice_at gb N t htN (by omega)
          obtain ⟨bb, off, hA, o1, o2, o3, _, _⟩ := HQ.out.r (by rw [ub_len]; omega)
          subst hA
          clear o1 o2 o3
          have i2 : (0 : Int) ≤ (pg : Int) := by omega
          have i3 : (pg : Int) < (n : Int) := by omega
          have HY := Lib.hid (And.intro hYn (And.intro hYb hYt))
          have HP := Lib.hid hpt
          have HT := Lib.hid (And.intro ht htN2)
          have H1 := Lib.hid h1
          have HL64 := Lib.hid hL64
          have hsz1 : (Try.prog.info? 5).map (·.size) = some 1 := by kernel_rfl
          unfold Left at HP
          subst h2
          clear hpt hM hYn hYb hYt hkX hL64 k1 k2 ht htN htN2 h1 ha hv hcl hcl2 hpg70
          go_wp2_with (go_at_call 14; refine HP.out.mono ?_; rintro e w2 ⟨rfl, hm2, ha2⟩
                       have HQ2 := Lib.hid (HQ.out.left HB.out HY.out.1 hm2 ha2)
                       have d3 : w2.cell? ⟨x, 3, none⟩ = some (.slice (some ⟨bb, off, none⟩) 64 cap) := HQ2.out.q.cell 3
                       clear hm2 ha2 HP c1 c2 c3)
          have hst : w2.drew.cell? ⟨x, 3, none⟩ = some (.slice (some ⟨bb, off, none⟩) 64 cap) := d3
          refine wp_region_held_drew (S := fun w' => w'.cell? ⟨x, 3, none⟩ = some (.slice (some ⟨bb, off, none⟩) 64 cap)) (by kernel_rfl) hst (fun hHeld => ?_)
          try dsimp only
          refine' wpAnyH_take (i := 0) (v := _) rfl (by kernel_rfl) (by kernel_rfl) (by kernel_rfl) (fun _ _ _ h => h) (Or.inl ⟨by rfl, ?hy0⟩) hHeld ?_
          case hy0 => (intro w hSw; (try dsimp only at hSw); go_simp; (try with_reducible rfl))
          (try simp only [Act.put, List.getElem_toArray, List.getElem_cons_succ, List.getElem_cons_zero, List.setIfInBounds_toArray, List.set_cons_zero, List.set_cons_succ])
          refine' wpAnyH_take (i := 1) (v := _) rfl (by kernel_rfl) (by kernel_rfl) (by kernel_rfl) (fun _ _ _ h => h) (Or.inl ⟨by rfl, ?hy1⟩) hHeld ?_
          case hy1 => (intro w hSw; (try dsimp only at hSw); go_simp; (try with_reducible rfl))
          (try simp only [Act.put, List.getElem_toArray, List.getElem_cons_succ, List.getElem_cons_zero, List.setIfInBounds_toArray, List.set_cons_zero, List.set_cons_succ])
          refine' wpAnyH_take (i := 2) (v := _) rfl (by kernel_rfl) (by kernel_rfl) (by kernel_rfl) (fun _ _ _ h => h) (Or.inl ⟨by rfl, ?hy2⟩) hHeld ?_
          case hy2 => (intro w hSw; (try dsimp only at hSw); go_simp; (try with_reducible rfl))
          (try simp only [Act.put, List.getElem_toArray, List.getElem_cons_succ, List.getElem_cons_zero, List.setIfInBounds_toArray, List.set_cons_zero, List.set_cons_succ])
          refine' wpAnyH_take (i := 3) (v := _) rfl (by kernel_rfl) (by kernel_rfl) (by kernel_rfl) (fun _ _ _ h => h) (Or.inl ⟨by rfl, ?hy3⟩) hHeld ?_
          case hy3 => (intro w hSw; (try dsimp only at hSw); go_simp; (try with_reducible rfl))
          (try simp only [Act.put, List.getElem_toArray, List.getElem_cons_succ, List.getElem_cons_zero, List.setIfInBounds_toArray, List.set_cons_zero, List.set_cons_succ])
          refine' wpAnyH_take (i := 4) (v := _) rfl (by kernel_rfl) (by kernel_rfl) (by kernel_rfl) (fun _ _ _ h => h) (Or.inl ⟨by rfl, ?hy4⟩) hHeld ?_
          case hy4 => (intro w hSw; (try dsimp only at hSw); go_simp; (try with_reducible rfl))
          (try simp only [Act.put, List.getElem_toArray, List.getElem_cons_succ, List.getElem_cons_zero, List.setIfInBounds_toArray, List.set_cons_zero, List.set_cons_succ])
          refine' wpAnyH_take (i := 5) (v := _) rfl (by kernel_rfl) (by kernel_rfl) (by kernel_rfl) (fun _ _ _ h => h) (Or.inl ⟨by rfl, ?hy5⟩) hHeld ?_
          case hy5 => (intro w hSw; (try dsimp only at hSw); go_simp; (try with_reducible rfl))
          (try simp only [Act.put, List.getElem_toArray, List.getElem_cons_succ, List.getElem_cons_zero, List.setIfInBounds_toArray, List.set_cons_zero, List.set_cons_succ])
          refine wpAnyH_ready (rs := [6]) (by kernel_rfl) (by simp) ?_
          refine AllReadyH.cons rfl (fun K hK => ?_) AllReadyH.nil
          have hgb : w2.drew.heap[gb]? = some (.cells ((List.range N).map fun j => Value.int .u8 (X.b j)).toArray 5 (0, 0)) := by
            have := HQ2.out.d.b
            rw [HY.out.1, HN.out.2] at this
            exact this
          have hrd := HQ2.out.r
          have hsrc : ∀ j v, (ub L)[j]? = some v → w2.drew.cell? ((⟨bb, off, none⟩ : Addr).add j) = some v := fun j v hv => by
            obtain ⟨b', off', e, _, _, _, _, h5⟩ := hrd (by rw [ub_len, HL64.out]; omega)
            cases e
            rw [addr_add]; exact h5 j v hv
          refine step_copy_all rfl (.tmp 127) (.tmp 129) 29 29 rfl 5 Try.underlying29 hsz1 (N - t) (N - t) 64 cap ⟨bb, off, none⟩ gb t rfl rfl _ 5 hgb (ub L) (by rw [ub_len, HL64.out]; have := HT.out.2; exact (Nat.min_eq_left (by omega)).symm) hsrc (by rw [ub_len, HL64.out, List.length_map, List.length_range]; exact HT.out.2) (fun v hv => by obtain ⟨x, _, rfl⟩ := List.mem_map.1 hv; rfl) ?_
          intro w3 HG3
          have hov := HG3.out.2
          have HQ3 := Lib.hid ((HQ2.out.keep HB.out (Below.refl _ _).drew).over HB.out t L (by rw [HY.out.1, HN.out.2, HL64.out]; exact HT.out.2) HG3.out.2 (by rw [HY.out.1, HN.out.2]; exact HG3.out.1))
          have hst3 : w3.cell? ⟨x, 3, none⟩ = some (.slice (some ⟨bb, off, none⟩) 64 cap) := HQ3.out.q.cell 3
          refine hK.out _ _ hst3 (fun hHeld => ?_)
          clear hK K
          (try simp only [Act.put, List.getElem_toArray, List.getElem_cons_succ, List.getElem_cons_zero, List.setIfInBounds_toArray, List.set_cons_zero, List.set_cons_succ])
          refine wpAnyH_done (by kernel_rfl) ?_ _
          have d5 := IsC.cell HQ3.out.d.t pg (by rw [HY.out.1, HN.out.1]; exact H1.out)
          have d6 := IsC.frozen HQ3.out.d.t pg
          generalize X.tu pg = o9 at *
          clear hov HG3 HQ2 d3 hst hst3 hgb hrd hsrc hHeld
          go_wp2_with fail
          go_meet
          case rel =>
            refine ⟨Y, Lib.hid (HY.out.1.trans HN.out.1), Lib.hid ((HQ3.out.setT pg true).cast (fun j hj => ?_) fun q hq => ?_)⟩
            · rw [HY.out.2.1, HL64.out, HT.out.1]
            · rw [HY.out.2.2]
        · have e1 : X.pgS (pg : Int) L = X := if_neg (fun h => hok ⟨by have h1 := h.1; unfold Rm.pB at h1; rw [decide_eq_true_eq, HN.out.1] at h1; omega, by rw [HL.out.1]; exact h.2⟩)
          have e2 : X.pgV (pg : Int) len = false := by
            unfold Rm.pgV Rm.pB
            rw [HN.out.1]
            by_cases h : pg < n
            · have : ¬ len = 64 := fun h2 => hok ⟨h, h2⟩
              simp [this]
            · simp; omega
          rw [e1, e2] at hpt
          have HP := Lib.hid hpt
          unfold Left at HP
          have i2 : (0 : Int) ≤ (pg : Int) := by omega
          clear hpt hM e1 e2 k1 k2 ha hv hcl hcl2 hpg70
          by_cases h : pg < n
          · have h2 : ((len : Int) == 64) = false := by
              have : ¬ len = 64 := fun h2 => hok ⟨h, h2⟩
              simp; omega
            have i3 : (pg : Int) < (n : Int) := by omega
            clear hok
            go_wp2_with (go_at_call 14; refine HP.out.mono ?_; rintro e w2 ⟨rfl, hm2, ha2⟩
                         have HQ2 := Lib.hid (HQ.out.left HB.out rfl hm2 ha2)
                         clear hm2 ha2 HP c1 c2 c3)
            go_meet
            case rel => exact ⟨X, Lib.hid HN.out.1, HQ2⟩
          · have i3 : (n : Int) ≤ (pg : Int) := by omega
            have i4 : decide ((pg : Int) < (n : Int)) = false := by simp; omega
            clear hok
            go_wp2_with (go_at_call 14; refine HP.out.mono ?_; rintro e w2 ⟨rfl, hm2, ha2⟩
                         have HQ2 := Lib.hid (HQ.out.left HB.out rfl hm2 ha2)
                         clear hm2 ha2 HP c1 c2 c3)
            go_meet
            case rel => exact ⟨X, Lib.hid HN.out.1, HQ2⟩
    have k3b : (k == 3) = false := by simpa using k3
    by_cases k4 : k = 4
    · as_aux_lemma =>
        subst k4
        have hpt := loadM_any A len cap L HL.out.1 HL.out.2 W hM HQ.out.r.rdM
        by_cases hle : len ≤ N
        · have hLX : L.length ≤ X.n * 64 := by rw [← HL.out.1, HN.out.2]; exact hle
          rw [show X.ldE len = 0 from if_pos (by rw [HN.out.2]; exact hle)] at hpt
          have hYn := lds_n X L
          have hYb := lds_b hLX
          have hYt := lds_tu hLX
          generalize X.ldS L = Y at *
          have i1 : (len : Int) ≤ (N : Int) := by omega
          have i2 : decide ((len : Int) ≤ (N : Int)) = true := by simp; omega
          have HY := Lib.hid (And.intro hYn (And.intro hYb hYt))
          have HP := Lib.hid hpt
          have HLE := Lib.hid hle
          have hsz1 : (Try.prog.info? 5).map (·.size) = some 1 := by kernel_rfl
          unfold Left at HP
          clear hpt hM hYn hYb hYt hLX k1 k2 k3 ha hv hcl hle
          go_wp2_with (first
            | (go_at_call 22; refine HP.out.mono ?_; rintro e w2 ⟨rfl, hm2, ha2⟩
               have HQ2 := Lib.hid (HQ.out.left HB.out HY.out.1 hm2 ha2)
               have d3 : w2.cell? ⟨x, 3, none⟩ = some (.slice A len cap) := HQ2.out.q.cell 3
               have HGB : Hid (w2.heap[gb]? = some (.cells ((List.range N).map fun j => Value.int .u8 (X.b j)).toArray 5 (0, 0))) := Lib.hid (by
                 have := HQ2.out.d.b
                 rw [HY.out.1, HN.out.2] at this
                 exact this)
               have HPS := Lib.hid (show 0 < (ub L).length → (some ⟨gb, 0, none⟩ : Option Addr) = some ⟨gb, 0, none⟩ ∧ ∃ ad, A = some ad ∧ ∀ j v, (ub L)[j]? = some v → w2.cell? (ad.add j) = some v from fun hp => by
                 obtain ⟨b', off', e, _, _, _, _, h5⟩ := HQ2.out.r hp
                 exact ⟨rfl, _, e, fun j v hv => by rw [addr_add]; exact h5 j v hv⟩)
               clear hm2 ha2 HP c1 c2 c3)
            | (refine wpList_copy_all rfl (.tmp 159) (.tmp 161) 29 29 rfl 5 Try.underlying29 hsz1 (some ⟨gb, 0, none⟩) A N N len cap rfl rfl gb 0 _ 5 HGB.out (ub L) (by rw [ub_len, ← HL.out.1]; exact (Nat.min_eq_left HLE.out).symm) (fun hp => ⟨rfl, (HPS.out hp).2⟩) (by rw [ub_len, ← HL.out.1, List.length_map, List.length_range, Nat.zero_add]; exact HLE.out) (fun v hv => by obtain ⟨x, _, rfl⟩ := List.mem_map.1 hv; rfl) ?_
               intro w3 HG3
               have HQ3 := Lib.hid (HQ2.out.over HB.out 0 L (by rw [HY.out.1, HN.out.2, ← HL.out.1, Nat.zero_add]; exact HLE.out) HG3.out.2 (by rw [HY.out.1, HN.out.2]; exact HG3.out.1))
               have HQ4 := Lib.hid (HQ3.out.cast (F' := Y.b) (G' := (X.ws 0 L 0).tu) (fun j _ => HY.out.2.1 j) fun _ _ => rfl)
               clear HG3 HQ2 HQ3 d3 HGB HPS))
          go_loopw [17] (fun i wr => ∃ j : Nat, j ≤ len ∧ i = .int .i64 j ∧ Hid (Qst w0 B p gb gt x 4 a v A len cap L wr Y Y.b (X.ws 0 L j).tu)) (fun i _ => len - (intOf i).toNat)
          case atStart => exact ⟨0, by omega, rfl, HQ4⟩
          case round =>
            clear HQ4
            obtain ⟨j, hj, rfl, hQ⟩ := hrel
            have d3 : wr.cell? ⟨x, 3, none⟩ = some (.slice A len cap) := hQ.out.q.cell 3
            by_cases hlj : j < len
            · obtain ⟨q, hq⟩ : ∃ q : Nat, (j : Int) / 64 = q := ⟨j / 64, by omega⟩
              have hq2 : j / 64 = q := by omega
              have hqt : (j : Int).tdiv 64 = (q : Int) := by rw [Int.tdiv_eq_ediv_of_nonneg (by omega)]; exact hq
              have hqn : q < n := by have := HN3.out; have := HLE.out; omega
              have d5 := IsC.cell hQ.out.d.t q (by rw [HY.out.1, HN.out.1]; exact hqn)
              have d6 := IsC.frozen hQ.out.d.t q
              have i3 : (0 : Int) ≤ (q : Int) := by omega
              have i4 : (q : Int) < (n : Int) := by omega
              have i5 : (j : Int) < (len : Int) := by omega
              have i6 : (0 : Int) ≤ (j : Int) := by omega
              have HST : Hid (Qst w0 B p gb gt x 4 a v A len cap L (wr.setCell ⟨gt, q, none⟩ (.bool true)) Y Y.b (X.ws 0 L (j + 1)).tu) := Lib.hid (by
                have h := hQ.out.setT q true
                have e : (X.ws 0 L (j + 1)).tu = upd (X.ws 0 L j).tu q true := by
                  show upd (X.ws 0 L j).tu ((0 + j) / 64) true = _
                  rw [Nat.zero_add, hq2]
                rw [e]; exact h)
              generalize (X.ws 0 L j).tu q = o2 at *
              go_wp2_with fail
              go_round
              case rel => exact ⟨j + 1, by omega, by go_num, HST⟩
              case measure => simp [intOf]; omega
            · obtain rfl : j = len := by omega
              have hQ2 : Hid (Qst w0 B p gb gt x 4 a v A j cap L wr Y Y.b Y.tu) := Lib.hid (hQ.out.cast (fun _ _ => rfl) fun q _ => by rw [HY.out.2.2, ← HL.out.1])
              go_wp2_with fail
              go_meet
              case rel => exact ⟨Y, Lib.hid (HY.out.1.trans HN.out.1), hQ2⟩
        · have e1 : X.ldS L = X := if_neg (by rw [← HL.out.1, HN.out.2]; exact hle)
          rw [show X.ldE len = 3 from if_neg (by rw [HN.out.2]; exact hle), e1] at hpt
          have HP := Lib.hid hpt
          have i1 : ¬ (len : Int) ≤ (N : Int) := by omega
          have i2 : decide ((len : Int) ≤ (N : Int)) = false := by simp; omega
          unfold Left at HP
          clear hpt hM e1 k1 k2 k3 ha hv hcl hle
          go_wp2_with (go_at_call 22; refine HP.out.mono ?_; rintro e w2 ⟨rfl, hm2, ha2⟩
                       have HQ2 := Lib.hid (HQ.out.left HB.out rfl hm2 ha2)
                       have d3 : w2.cell? ⟨x, 3, none⟩ = some (.slice A len cap) := HQ2.out.q.cell 3
                       clear hm2 ha2 HP c1 c2 c3)
          go_meet
          case rel => exact ⟨X, Lib.hid HN.out.1, HQ2⟩
    have k4b : (k == 4) = false := by simpa using k4
    by_cases k5 : k = 5
    · as_aux_lemma =>
        subst k5
        have hcl := calm_any W hM
        have HP := Lib.hid hcl
        unfold Left at HP
        clear hcl hM k1
        go_wp2_with (go_at_call 31; refine HP.out.mono ?_; rintro e w2 ⟨rfl, hm2, ha2⟩
                     have HQ2 := Lib.hid (show Qst w0 B p gb gt x 5 a v A len cap L w2 X.calm X.b X.tu from HQ.out.left HB.out rfl hm2 ha2)
                     clear hm2 ha2 HP c1 c2 c3)
        go_loopw [18] (fun i wr => ∃ j : Nat, j ≤ n ∧ i = .int .i64 j ∧ Hid (Qst w0 B p gb gt x 5 a v A len cap L wr X.calm X.b (fun q => if q < j then false else X.tu q))) (fun i _ => n - (intOf i).toNat)
        case atStart => exact ⟨0, by omega, rfl, HQ2⟩
        case round =>
          clear HQ2
          obtain ⟨j, hj, rfl, hQ⟩ := hrel
          by_cases hlj : j < n
          · have d5 := IsC.cell hQ.out.d.t j (by show j < X.n; rw [HN.out.1]; exact hlj)
            have d6 := IsC.frozen hQ.out.d.t j
            have i2 : (0 : Int) ≤ (j : Int) := by omega
            have i3 : (j : Int) < (n : Int) := by omega
            simp only [Nat.lt_irrefl, if_false] at d5
            generalize X.tu j = o2 at *
            go_wp2_with fail
            go_round
            case rel => exact ⟨j + 1, by omega, by go_num, Lib.hid ((hQ.out.setT j false).cast (fun _ _ => rfl) fun q _ => by
              by_cases e : q = j
              · subst e; rw [upd_same, if_pos (by omega)]
              · rw [upd_other _ _ _ _ e]
                by_cases h : q < j
                · rw [if_pos h, if_pos (by omega)]
                · rw [if_neg h, if_neg (by omega)])⟩
            case measure => simp [intOf]; omega
          · obtain rfl : j = n := by omega
            have hQ2 := Lib.hid (hQ.out.cast (F' := X.calm.b) (G' := X.calm.tu) (fun _ _ => rfl) fun q hq => by rw [if_pos (by rw [← HN.out.1]; exact hq)]; rfl)
            go_wp2_with fail
            go_meet
            case rel => exact ⟨X.calm, Lib.hid HN.out.1, hQ2⟩
    have k5b : (k == 5) = false := by simpa using k5
    by_cases k6 : k = 6
    · as_aux_lemma =>
        subst k6
        obtain ⟨pg, hpg⟩ : ∃ pg : Nat, (a : Int) % 70 = pg := ⟨a % 70, by omega⟩
        have hpg70 : pg < 70 := by omega
        have hpt := hM.unmap pg
        have hYn := uns_n X pg
        have i2 : (0 : Int) ≤ (pg : Int) := by omega
        by_cases hok : pg < X.n ∧ X.mp pg = true
        · rw [show X.unE pg = 0 from if_pos hok, show X.unS pg = X.un pg from if_pos hok] at hpt
          have h1 : pg < n := by rw [← HN.out.1]; exact hok.1
          obtain ⟨t, ht⟩ : ∃ t : Nat, pg * 64 = t := ⟨_, rfl⟩
          obtain ⟨t2, ht2⟩ : ∃ t2 : Nat, (pg + 1) * 64 = t2 := ⟨_, rfl⟩
          have htI : (pg : Int) * 64 = (t : Int) := by omega
          have htI2 : ((pg : Int) + 1) * 64 = (t2 : Int) := by omega
          have hw1 : IntKind.i64.wrap ((pg : Int) * 64) = (t : Int) := by rw [htI]; exact IntWalk.i64_in _ (by omega)
          have hw2 : IntKind.i64.wrap (t : Int) = (t : Int) := IntWalk.i64_in _ (by omega)
          have hw3 : IntKind.i64.wrap ((pg : Int) + 1) = (pg : Int) + 1 := IntWalk.i64_in _ (by omega)
          have hw4 : IntKind.i64.wrap (((pg : Int) + 1) * 64) = (t2 : Int) := by rw [htI2]; exact IntWalk.i64_in _ (by omega)
          have hw5 : IntKind.i64.wrap (t2 : Int) = (t2 : Int) := IntWalk.i64_in _ (by omega)
          have htN2 : t + 64 ≤ N := by have := HN3.out; omega
          have htt : t2 = t + 64 := by omega
          have hsl := slice_to gb N t t2 (by omega) (by omega) (by omega)
          rw [show t2 - t = 64 by omega] at hsl
          have HP := Lib.hid hpt
          have HT := Lib.hid (And.intro ht htN2)
          have hsz1 : (Try.prog.info? 5).map (·.size) = some 1 := by kernel_rfl
          have hmk8 := make_u8 .i64 64 (by omega)
          simp only [Int.cast_ofNat_Int] at hmk8
          have HNZ := Lib.hid (new_u8 64)
          generalize madeCells #[Value.int .u8 0] 64 = Z8 at *
          unfold Left at HP
          clear hpt hM hYn k1 k2 k3 k4 ht htN2 h1 ha hv hcl hpg70 hok ht2 htt
          go_wp2_with (go_at_call 32; refine HP.out.mono ?_; rintro e w2 ⟨rfl, hm2, ha2⟩
                       have HQ2 := Lib.hid (show Qst w0 B p gb gt x 6 a v A len cap L w2 (X.un pg) X.b X.tu from HQ.out.left HB.out rfl hm2 ha2)
                       clear hm2 ha2 HP c1 c2 c3)
          refine wp_region_held_drew (S := fun _ => True) (by kernel_rfl) trivial (fun hHeld => ?_)
          try dsimp only
          refine' wpAnyH_take (i := 0) (v := _) rfl (by kernel_rfl) (by kernel_rfl) (by kernel_rfl) (fun _ _ _ h => h) (Or.inl ⟨by rfl, ?hy0⟩) hHeld ?_
          case hy0 => (intro w hSw; (try dsimp only at hSw); go_simp; (try with_reducible rfl))
          (try simp only [Act.put, List.getElem_toArray, List.getElem_cons_succ, List.getElem_cons_zero, List.setIfInBounds_toArray, List.set_cons_zero, List.set_cons_succ])
          refine' wpAnyH_take (i := 1) (v := _) rfl (by kernel_rfl) (by kernel_rfl) (by kernel_rfl) (fun _ _ _ h => h) (Or.inl ⟨by rfl, ?hy1⟩) hHeld ?_
          case hy1 => (intro w hSw; (try dsimp only at hSw); go_simp; (try with_reducible rfl))
          (try simp only [Act.put, List.getElem_toArray, List.getElem_cons_succ, List.getElem_cons_zero, List.setIfInBounds_toArray, List.set_cons_zero, List.set_cons_succ])
          refine' wpAnyH_take (i := 2) (v := _) rfl (by kernel_rfl) (by kernel_rfl) (by kernel_rfl) (fun _ _ _ h => h) (Or.inl ⟨by rfl, ?hy2⟩) hHeld ?_
          case hy2 => (intro w hSw; (try dsimp only at hSw); go_simp; (try with_reducible rfl))
          (try simp only [Act.put, List.getElem_toArray, List.getElem_cons_succ, List.getElem_cons_zero, List.setIfInBounds_toArray, List.set_cons_zero, List.set_cons_succ])
          refine' wpAnyH_take (i := 3) (v := _) rfl (by kernel_rfl) (by kernel_rfl) (by kernel_rfl) (fun _ _ _ h => h) (Or.inl ⟨by rfl, ?hy3⟩) hHeld ?_
          case hy3 => (intro w hSw; (try dsimp only at hSw); go_simp; (try with_reducible rfl))
          (try simp only [Act.put, List.getElem_toArray, List.getElem_cons_succ, List.getElem_cons_zero, List.setIfInBounds_toArray, List.set_cons_zero, List.set_cons_succ])
          refine' wpAnyH_take (i := 4) (v := _) rfl (by kernel_rfl) (by kernel_rfl) (by kernel_rfl) (fun _ _ _ h => h) (Or.inl ⟨by rfl, ?hy4⟩) hHeld ?_
          case hy4 => (intro w hSw; (try dsimp only at hSw); go_simp; (try with_reducible rfl))
          (try simp only [Act.put, List.getElem_toArray, List.getElem_cons_succ, List.getElem_cons_zero, List.setIfInBounds_toArray, List.set_cons_zero, List.set_cons_succ])
          refine' wpAnyH_take (i := 5) (v := _) rfl (by kernel_rfl) (by kernel_rfl) (by kernel_rfl) (fun _ _ _ h => h) (Or.inl ⟨by rfl, ?hy5⟩) hHeld ?_
          case hy5 => (intro w hSw; (try dsimp only at hSw); go_simp; (try with_reducible rfl))
          (try simp only [Act.put, List.getElem_toArray, List.getElem_cons_succ, List.getElem_cons_zero, List.setIfInBounds_toArray, List.set_cons_zero, List.set_cons_succ])
          refine' wpAnyH_take (i := 6) (v := _) rfl (by kernel_rfl) (by kernel_rfl) (by kernel_rfl) (fun _ _ _ h => h) (Or.inl ⟨by rfl, ?hy6⟩) hHeld ?_
          case hy6 => (intro w hSw; (try dsimp only at hSw); go_simp; (try with_reducible rfl))
          (try simp only [Act.put, List.getElem_toArray, List.getElem_cons_succ, List.getElem_cons_zero, List.setIfInBounds_toArray, List.set_cons_zero, List.set_cons_succ])
          refine wpAnyH_ready (rs := [7]) (by kernel_rfl) (by simp) ?_
          refine AllReadyH.cons rfl (fun K hK => ?_) AllReadyH.nil
          go_simp
          refine hK.out _ _ trivial (fun hHeld => ?_)
          clear hK K
          (try simp only [Act.put, List.getElem_toArray, List.getElem_cons_succ, List.getElem_cons_zero, List.setIfInBounds_toArray, List.set_cons_zero, List.set_cons_succ])
          refine wpAnyH_ready (rs := [8]) (by kernel_rfl) (by simp) ?_
          refine AllReadyH.cons rfl (fun K hK => ?_) AllReadyH.nil
          have hbz : Below w2.heap.size w2 (w2.alloc (.cells Z8 5)) := (Below.refl _ _).alloc (Nat.le_refl _) _
          have HQ3 := Lib.hid (HQ2.out.keep HB.out (hbz.trans (Below.refl _ _).drew))
          have hgb : (w2.alloc (.cells Z8 5)).drew.heap[gb]? = some (.cells ((List.range N).map fun j => Value.int .u8 (X.b j)).toArray 5 (0, 0)) := by
            have := HQ3.out.d.b
            rw [show (X.un pg).n = X.n from rfl, HN.out.2] at this
            exact this
          have hnz := HNZ.out w2
          have hML : (rowL (fun _ : Nat => (0 : Int)) 64).length = 64 := rowL_len _ _
          have hsrc : ∀ j v, (ub (rowL (fun _ => 0) 64))[j]? = some v → (w2.alloc (.cells Z8 5)).drew.cell? ((⟨w2.heap.size, 0, none⟩ : Addr).add j) = some v := fun j v hv => by
            have hj : j < 64 := by have := (List.getElem?_eq_some_iff.1 hv).1; rw [ub_len, hML] at this; exact this
            rw [ub_get (by rw [hML]; exact hj), rowL_get _ hj] at hv
            cases hv
            rw [addr_add, Nat.zero_add]; exact IsC.cell hnz j hj
          refine step_copy_all rfl (.tmp 203) (.tmp 204) 29 29 rfl 5 Try.underlying29 hsz1 64 (N - t) 64 64 ⟨w2.heap.size, 0, none⟩ gb t rfl rfl _ 5 hgb (ub (rowL (fun _ => 0) 64)) (by rw [ub_len, hML]; rfl) hsrc (by rw [ub_len, hML, List.length_map, List.length_range]; exact HT.out.2) (fun v hv => by obtain ⟨x, _, rfl⟩ := List.mem_map.1 hv; rfl) ?_
          intro w3 HG3
          have HQ4 := Lib.hid (HQ3.out.over HB.out t (rowL (fun _ => 0) 64) (by rw [show (X.un pg).n = X.n from rfl, HN.out.2, hML]; exact HT.out.2) HG3.out.2 (by rw [show (X.un pg).n = X.n from rfl, HN.out.2]; exact HG3.out.1))
          refine hK.out _ _ trivial (fun hHeld => ?_)
          clear hK K
          (try simp only [Act.put, List.getElem_toArray, List.getElem_cons_succ, List.getElem_cons_zero, List.setIfInBounds_toArray, List.set_cons_zero, List.set_cons_succ])
          refine wpAnyH_done (by kernel_rfl) ?_ _
          clear HG3 HQ2 HQ3 hgb hsrc hHeld hnz hbz
          go_wp2_with fail
          go_meet
          case rel =>
            refine ⟨X.un pg, Lib.hid HN.out.1, Lib.hid (HQ4.out.cast (fun j hj => ?_) fun q hq => rfl)⟩
            rw [hML]
            show (if j / 64 = pg then 0 else X.b j) = _
            have h1 := HT.out.1
            by_cases h : j / 64 = pg
            · rw [if_pos h, if_pos (by omega), rowL_get _ (by omega)]
            · rw [if_neg h, if_neg (by omega)]
        · rw [show X.unE pg = 22 from if_neg hok, show X.unS pg = X from if_neg hok] at hpt
          have HP := Lib.hid hpt
          unfold Left at HP
          clear hpt hM hYn k1 k2 k3 k4 ha hv hcl hpg70 hok
          go_wp2_with (go_at_call 32; refine HP.out.mono ?_; rintro e w2 ⟨rfl, hm2, ha2⟩
                       have HQ2 := Lib.hid (HQ.out.left HB.out rfl hm2 ha2)
                       clear hm2 ha2 HP c1 c2 c3)
          go_meet
          case rel => exact ⟨X, Lib.hid HN.out.1, HQ2⟩
    have k6b : (k == 6) = false := by simpa using k6
    go_wp2_with fail
    go_meet
    case rel => exact ⟨X, Lib.hid HN.out.1, HQ⟩
  case rest =>
    obtain ⟨Y, hYn, hQ⟩ := hcut
    clear HQ
    generalize w.heap.size = x at *
    have c1 : wc.cell? ⟨x, 1, none⟩ = some (.int .u32 a) := hQ.out.q.cell 1
    have hM := hQ.out.d.d.m
    have hYN : Y.n * 64 = N := by rw [hYn.out]; exact HN3.out.symm
    have hwd := wordM_any a ha wc hM
    have hby := fun m => byteM_any a ha (wc.drewN m) (hM.drewN m)
    have hbd := hM.bd
    rw [hYN] at hwd
    unfold Rm.wdV Rm.bV at *
    rw [hYN] at hwd
    simp only [hYN] at hby
    have HWD := Lib.hid hwd
    have HBY := Lib.hid hby
    have hc := fun m => show (wc.drewN m).cell? ⟨x, 1, none⟩ = some (.int .u32 a) from c1
    have hdr := fun m => hQ.out.keep HB.out (Below_drewN (Below.refl _ _) m)
    unfold Told at HWD HBY
    clear hwd hby hM
    by_cases hlt : a + 4 ≤ N
    · have HBD := Lib.hid (fun j (hj : j < 4) => hbd (a + j) (by rw [hYN]; omega))
      have hcb := fun m j (hj : j < 4) => IsC.cell (hdr m).d.b (a + j) (by rw [hYN]; omega)
      have hfr := fun m => IsC.frozen (hdr m).d.b
      have i1 : (a : Int) ≤ (N : Int) - 4 := by omega
      have i2 : (a : Int) < (N : Int) := by omega
      have d1 : decide ((a : Int) ≤ (N : Int) - 4) = true := by simp; omega
      have d2 : decide ((a : Int) < (N : Int)) = true := by simp; omega
      rw [if_pos hlt, decide_eq_true hlt] at HWD
      rw [if_pos (show a < N by omega), decide_eq_true (show a < N by omega)] at HBY
      have i4 : (a : Int) + 4 ≤ (N : Int) := by omega
      have HCB := Lib.hid hcb
      have h0 := fun m => hcb m 0 (by omega)
      simp only [Nat.add_zero] at h0
      have HY := Lib.hid hYn.out
      have HDR := Lib.hid hdr
      clear hcb hfr hdr hbd ha hv hlt
      go_wp2_with (first
        | (go_at_call 24; refine HWD.out.mono ?_; rintro e w' ⟨rfl, m1, rfl⟩; have e1 := hc m1)
        | (go_at_call 33; refine (HBY.out m1).mono ?_; rintro e w' ⟨rfl, m2, rfl⟩; have e2 := hc (m1 + m2); have e3 := h0 (m1 + m2); clear hc h0))
      have f0 := HCB.out (m1 + m2) 0 (by omega)
      have f1 := HCB.out (m1 + m2) 1 (by omega)
      have f2 := HCB.out (m1 + m2) 2 (by omega)
      have f3 := HCB.out (m1 + m2) 3 (by omega)
      have b0 := HBD.out 0 (by omega)
      have b1 := HBD.out 1 (by omega)
      have b2 := HBD.out 2 (by omega)
      have b3 := HBD.out 3 (by omega)
      have HS := Lib.hid (show Y.wd a = Y.b a + Y.b (a + 1) * 256 + Y.b (a + 2) * 65536 + Y.b (a + 3) * 16777216 from rfl)
      simp only [Nat.add_zero] at f0 b0
      generalize Y.wd a = S at *
      have HD9 := Lib.hid (HDR.out (m1 + m2))
      generalize Y.b a = y0 at *
      generalize Y.b (a + 1) = y1 at *
      generalize Y.b (a + 2) = y2 at *
      generalize Y.b (a + 3) = y3 at *
      have w0 : IntKind.u32.wrap y0 = y0 := by rw [IntKind.wrap_u32]; omega
      have w1 : IntKind.u32.wrap y1 = y1 := by rw [IntKind.wrap_u32]; omega
      have w2 : IntKind.u32.wrap y2 = y2 := by rw [IntKind.wrap_u32]; omega
      have w3 : IntKind.u32.wrap y3 = y3 := by rw [IntKind.wrap_u32]; omega
      have v1 : IntKind.u32.wrap (y1 * 256) = y1 * 256 := by rw [IntKind.wrap_u32]; omega
      have v2 : IntKind.u32.wrap (y2 * 65536) = y2 * 65536 := by rw [IntKind.wrap_u32]; omega
      have v3 : IntKind.u32.wrap (y3 * 16777216) = y3 * 16777216 := by rw [IntKind.wrap_u32]; omega
      have z1 : IntKind.u32.wrap ((a : Int) + 1) = (a : Int) + 1 := by rw [IntKind.wrap_u32]; omega
      have z2 : IntKind.u32.wrap ((a : Int) + 2) = (a : Int) + 2 := by rw [IntKind.wrap_u32]; omega
      have z3 : IntKind.u32.wrap ((a : Int) + 3) = (a : Int) + 3 := by rw [IntKind.wrap_u32]; omega
      have o1 : bits .or .u32 y0 (y1 * 256) = y0 + y1 * 256 := or_hi y0 y1 8 ⟨b0.1, b0.2⟩ (by omega) b1.1 (show y1 * 256 < 4294967296 by omega)
      have o2 : bits .or .u32 (y0 + y1 * 256) (y2 * 65536) = y0 + y1 * 256 + y2 * 65536 := or_hi (y0 + y1 * 256) y2 16 ⟨by omega, show y0 + y1 * 256 < 65536 by omega⟩ (by omega) b2.1 (show y2 * 65536 < 4294967296 by omega)
      have o3 : bits .or .u32 (y0 + y1 * 256 + y2 * 65536) (y3 * 16777216) = S := (or_hi (y0 + y1 * 256 + y2 * 65536) y3 24 ⟨by omega, show y0 + y1 * 256 + y2 * 65536 < 16777216 by omega⟩ (by omega) b3.1 (show y3 * 16777216 < 4294967296 by omega)).trans HS.out.symm
      have hself : (S == S) = true := by simp
      have a0 : (0 : Int) ≤ (a : Int) := by omega
      have a1 : (a : Int) + 1 < (N : Int) := by omega
      have a2 : (a : Int) + 2 < (N : Int) := by omega
      have a3 : (a : Int) + 3 < (N : Int) := by omega
      have a4 : (0 : Int) ≤ (a : Int) + 1 := by omega
      have a5 : (0 : Int) ≤ (a : Int) + 2 := by omega
      have a6 : (0 : Int) ≤ (a : Int) + 3 := by omega
      generalize wc.drewN (m1 + m2) = W9 at *
      clear HCB HBD HDR HS e1 HWD HBY e3 c1
      go_quiet (fail)
      go_wp2_with fail
      go_ret
      exact ⟨rfl, Y, HY.out, (HD9.out.d.keep HB.out (Below_drewN (Below.refl _ _) _))⟩
    · have hcb := fun m (hj : a < N) => IsC.cell (hdr m).d.b a (by rw [hYN]; exact hj)
      have i1 : ¬ (a : Int) ≤ (N : Int) - 4 := by omega
      have d1 : decide ((a : Int) ≤ (N : Int) - 4) = false := by simp; omega
      rw [if_neg hlt, decide_eq_false hlt] at HWD
      have HDR := Lib.hid hdr
      have HY := Lib.hid hYn.out
      by_cases hl : a < N
      · have i2 : (a : Int) < (N : Int) := by omega
        have d2 : decide ((a : Int) < (N : Int)) = true := by simp; omega
        rw [if_pos hl, decide_eq_true hl] at HBY
        have h0 := fun m => hcb m hl
        generalize Y.b a = y0 at *
        clear hcb hdr hbd ha hv hlt hl
        go_wp2_with (first
          | (go_at_call 24; refine HWD.out.mono ?_; rintro e w' ⟨rfl, m1, rfl⟩; have e1 := hc m1)
          | (go_at_call 33; refine (HBY.out m1).mono ?_; rintro e w' ⟨rfl, m2, rfl⟩; have e2 := hc (m1 + m2); have e3 := h0 (m1 + m2); clear hc h0))
        go_ret
        exact ⟨rfl, Y, HY.out, (HDR.out _).d⟩
      · have i2 : ¬ (a : Int) < (N : Int) := by omega
        have d2 : decide ((a : Int) < (N : Int)) = false := by simp; omega
        rw [if_neg hl, decide_eq_false hl] at HBY
        clear hcb hdr hbd ha hv hlt hl
        go_wp2_with (first
          | (go_at_call 24; refine HWD.out.mono ?_; rintro e w' ⟨rfl, m1, rfl⟩; have e1 := hc m1)
          | (go_at_call 33; refine (HBY.out m1).mono ?_; rintro e w' ⟨rfl, m2, rfl⟩; have e2 := hc (m1 + m2); clear hc))
        go_ret
        exact ⟨rfl, Y, HY.out, (HDR.out _).d⟩
end
end Go.Proofs.Ytgohmchodgoceaa

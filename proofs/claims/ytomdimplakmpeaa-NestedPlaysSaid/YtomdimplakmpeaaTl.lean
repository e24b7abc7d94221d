/-
  innkeeperlaw6.tells: A CONTRACT.
-/
import Derived.Test.YtomdimplakmpeaaTf
import Derived.Test.YtomdimplakmpeaaSm
namespace Go.Proofs.Ytomdimplakmpeaa
open Go.RowKit
set_option linter.unusedSimpArgs false
set_option linter.unusedVariables false

/-- the law's two rows: the frame of each page, what is guarded -/
structure Tabs (w : World) (ab gb : Nat) (T : Ta) : Prop where
  za : ab < w.heap.size
  zg : gb < w.heap.size
  at_ : ∀ k, k < T.n → w.cell? ⟨ab, k, none⟩ = some (.int .i64 (T.fr k))
  gd : ∀ k, k < T.n → w.cell? ⟨gb, k, none⟩ = some (.bool (T.gd k))
  fa : ∀ i, w.frozen? ⟨ab, i, none⟩ = false
  fg : ∀ i, w.frozen? ⟨gb, i, none⟩ = false
theorem Tabs.keep {w w' : World} {ab gb : Nat} {T : Ta} (x : Tabs w ab gb T) (e1 : w'.heap[ab]? = w.heap[ab]?) (e2 : w'.heap[gb]? = w.heap[gb]?) : Tabs w' ab gb T := by
  have hc1 : ∀ i, w'.cell? ⟨ab, i, none⟩ = w.cell? ⟨ab, i, none⟩ := fun i => by simp only [World.cell?, e1]
  have hc2 : ∀ i, w'.cell? ⟨gb, i, none⟩ = w.cell? ⟨gb, i, none⟩ := fun i => by simp only [World.cell?, e2]
  have z1 : ab < w'.heap.size := by
    have h1 : w.heap[ab]? = some (w.heap[ab]'x.za) := Array.getElem?_eq_getElem x.za
    rw [h1] at e1
    exact (Array.getElem?_eq_some_iff.1 e1).1
  have z2 : gb < w'.heap.size := by
    have h1 : w.heap[gb]? = some (w.heap[gb]'x.zg) := Array.getElem?_eq_getElem x.zg
    rw [h1] at e2
    exact (Array.getElem?_eq_some_iff.1 e2).1
  exact ⟨z1, z2, fun k hk => (hc1 _).trans (x.at_ k hk), fun k hk => (hc2 _).trans (x.gd k hk), fun i => by
    have := x.fa i
    simp only [World.frozen?, e1] at this ⊢; exact this, fun i => by
    have := x.fg i
    simp only [World.frozen?, e2] at this ⊢; exact this⟩
theorem Tabs.below {w w' : World} {ab gb : Nat} {T : Ta} (x : Tabs w ab gb T) (hb : Below w.heap.size w w') : Tabs w' ab gb T := x.keep (hb.block ab x.za) (hb.block gb x.zg)
section
variable {g h r ab gb : Nat} {T : Ta}
set_option maxRecDepth 100000 in
set_option maxHeartbeats 4000000 in
theorem tells_any (w : World) (hT : IsT w g h r T) (hX : Tabs w ab gb T) :
    Calls Try.prog 21 #[.pointer (some ⟨h, 0, none⟩), .slice (some ⟨ab, 0, none⟩) T.n T.n, .slice (some ⟨gb, 0, none⟩) T.n T.n] w fun e w' => e = .returned (.bool true) ∧ Below w.heap.size w w' := by
  have HT := Lib.hid hT
  have HX := Lib.hid hX
  have hn1 := hT.good.n1
  have HGD := Lib.hid hT.good
  generalize hN : T.n = N at *
  have HN := Lib.hid hN
  clear hT hX hN
  go_enter Try.func21, Try.ntmps21
  go_wp2_with fail
  go_loopw [7, 8] (fun v i wr => ∃ (k : Nat) (ii : Int) (A : Option Addr) (c n : Nat), k ≤ N + 2 ∧ n ≤ 64 ∧ ii + 1 = k ∧ i = .int .i64 ii ∧ v = .slice A n c ∧ Hid (n = (T.mapL (min (k - 1) N)).length) ∧ Hid (wr.ownsRow w.heap.size 3 1 (.slice A n c) n (nv (T.mapL (min (k - 1) N)))) ∧ Hid (Below w.heap.size w wr)) (fun _ i _ => (N + 1 - intOf i).toNat)
  case atStart => exact ⟨0, -1, none, 0, 0, by omega, by omega, by omega, rfl, rfl, Lib.hid rfl, World.ownsRow_nil _ _ _ _, Below.refl _ _⟩
  case round =>
    obtain ⟨k, ii, A, c, n, hk, hn, hki, rfl, rfl, hNL, hO, hB⟩ := hrel
    have hz := hB.out.size
    by_cases hlt : k < N + 2
    · have hT2 := HT.out.below hB.out
      have hfr := frame_any ii _ hT2
      have hgd := guarded_any ii _ hT2
      have hle1 : ii ≤ (N : Int) := by omega
      by_cases hin : 0 ≤ ii ∧ ii < N
      · obtain ⟨q, rfl⟩ := Int.eq_ofNat_of_zero_le hin.1
        have hqN : q < N := by omega
        have hk1 : k = q + 1 := by omega
        have hge : (q : Int) ≥ 0 := by omega
        have hltN : (q : Int) < (N : Int) := by omega
        have hXX := HX.out.below hB.out
        have c1 := hXX.at_ q (by rw [HN.out]; exact hqN)
        have c2 := hXX.gd q (by rw [HN.out]; exact hqN)
        have hs := mapL_succ T q
        have hm := mB_nat (T := T) (i := q) (by rw [HN.out]; exact hqN)
        have hle := mapL_le T q
        rw [show min (k - 1) N = q by omega] at hNL hO
        unfold Ta.gdV at hgd
        unfold Ta.frV at hfr
        rw [Int.toNat_natCast] at hgd hfr
        have hg0 := HGD.out.gd q
        have hfc := HGD.out.fr q
        clear hT2 hXX hin hki
        cases hb : neB (T.fr q)
        · rw [hm, hb] at hfr hgd
          simp only [Bool.false_eq_true, if_false, Bool.false_and] at hfr hgd
          have hf0 : T.fr q = -1 := by have := not_neB hb; omega
          rw [hf0] at c1
          rw [hb] at hs
          simp only [Bool.false_eq_true, if_false, List.append_nil] at hs
          have HS := Lib.hid hs
          have HFR := Lib.hid hfr
          have HGU := Lib.hid hgd
          generalize T.gd q = gv at *
          clear hs hb hle hfr hgd hm hg0 hfc hf0
          go_wp2_with (first
            | (go_at_call 23; refine HFR.out.mono ?_; rintro e w' ⟨rfl, rfl⟩)
            | (go_at_call 24; refine HGU.out.mono ?_; rintro e w' ⟨rfl, rfl⟩))
          go_roundw
          case rel => exact ⟨k + 1, (q : Int) + 1, A, c, n, by omega, hn, by omega, by go_num, rfl, by rw [show min (k + 1 - 1) N = q + 1 by omega, HS.out]; exact hNL, by rw [show min (k + 1 - 1) N = q + 1 by omega, HS.out]; exact hO, hB⟩
          case measure => simp [intOf]; omega
        · rw [hm, hb] at hfr hgd
          simp only [if_true, Bool.true_and] at hfr hgd
          have hf0 : 0 ≤ T.fr q := by simpa [neB] using hb
          rw [hb] at hs
          simp only [if_true] at hs
          have HS := Lib.hid hs
          have HFR := Lib.hid hfr
          have HGU := Lib.hid hgd
          have hf1 : T.fr q ≥ 0 := hf0
          have hself : (T.fr q != T.fr q) = false := by simp
          have hself2 : (T.gd q != T.gd q) = false := by simp
          have HNN := Lib.hid (show n + 1 ≤ 64 by have := hNL.out; omega)
          have HO1 := Lib.hid (hO.out.alloc (.cells #[.int .i64 q] 3))
          generalize T.gd q = gv at *
          generalize T.fr q = fv at *
          clear hs hb hle hfr hgd hm hg0
          go_wp2_with (first
            | (go_at_call 23; refine HFR.out.mono ?_; rintro e w' ⟨rfl, rfl⟩)
            | (go_at_call 24; refine HGU.out.mono ?_; rintro e w' ⟨rfl, rfl⟩)
            | (at_builtin
               refine wpList_app rfl (.tmp 75) (.tmp 77) _ rfl w.heap.size 3 _ 1 8 Try.underlying32 Try.info_int rfl (by omega) (.slice A n c) n (nv (T.mapL q)) rfl HO1.out wr.heap.size 1 1 _ _ _ rfl (by simpa using heap_alloc_new wr (.cells #[.int .i64 q] 3)) rfl (by simp [Value.oneCell']) (by omega) (by unfold maxLen; omega) (by omega) (by simp; omega) ?_
               intro g2 cap2 w2 hext2
               have HX2 := Lib.hid hext2
               clear hext2))
          go_roundw
          case rel =>
            refine ⟨k + 1, (q : Int) + 1, some ⟨g2, 0, none⟩, cap2, n + 1, by omega, HNN.out, by omega, by go_num, rfl, ?_, ?_, ?_⟩
            · rw [show min (k + 1 - 1) N = q + 1 by omega, HS.out, List.length_append]; exact Lib.hid (by rw [hNL.out]; rfl)
            · apply Lib.hid
              have h := HX2.out.own
              rw [show min (k + 1 - 1) N = q + 1 by omega, HS.out, nv_append]
              simpa [nv] using h
            · exact Lib.hid ((hB.out.alloc hz _).trans (HX2.out.below (by simp; omega) HO1.out))
          case measure => simp [intOf]; omega
      · have hp : T.pB ii = false := by
          unfold Ta.pB; rw [HN.out]; simpa using hin
        have hm : T.mB ii = false := by unfold Ta.mB; rw [hp, Bool.false_and]
        unfold Ta.gdV at hgd
        unfold Ta.frV at hfr
        rw [hm] at hgd hfr
        simp only [Bool.false_eq_true, if_false, Bool.false_and] at hfr hgd
        have HFR := Lib.hid hfr
        have HGU := Lib.hid hgd
        have hmin : min (k + 1 - 1) N = min (k - 1) N := by
          rcases (show ii = -1 ∨ ii = N by omega) with h | h <;> omega
        have HMIN := Lib.hid hmin
        clear hfr hgd hm hp hT2 hmin
        rcases (show ii = -1 ∨ ii = N by omega) with h | h
        · have hge : decide (ii ≥ 0) = false := by simp; omega
          clear hin h
          go_wp2_with (first
            | (go_at_call 23; refine HFR.out.mono ?_; rintro e w' ⟨rfl, rfl⟩)
            | (go_at_call 24; refine HGU.out.mono ?_; rintro e w' ⟨rfl, rfl⟩))
          go_roundw
          case rel => exact ⟨k + 1, ii + 1, A, c, n, by omega, hn, by omega, by go_num, rfl, by rw [HMIN.out]; exact hNL, by rw [HMIN.out]; exact hO, hB⟩
          case measure => simp [intOf]; omega
        · have hge : ii ≥ 0 := by omega
          have hlt3 : decide (ii < (N : Int)) = false := by simp; omega
          clear hin h
          go_wp2_with (first
            | (go_at_call 23; refine HFR.out.mono ?_; rintro e w' ⟨rfl, rfl⟩)
            | (go_at_call 24; refine HGU.out.mono ?_; rintro e w' ⟨rfl, rfl⟩))
          go_roundw
          case rel => exact ⟨k + 1, ii + 1, A, c, n, by omega, hn, by omega, by go_num, rfl, by rw [HMIN.out]; exact hNL, by rw [HMIN.out]; exact hO, hB⟩
          case measure => simp [intOf]; omega
    · have hle3 : decide (ii ≤ (N : Int)) = false := by simp; omega
      have hkk : min (k - 1) N = N := by omega
      rw [hkk] at hNL hO
      have hmp := mapped_any _ (HT.out.below hB.out)
      unfold Mapd at hmp
      rw [HN.out, ← hNL.out] at hmp
      have HMP := Lib.hid hmp
      clear hmp hkk hlt hki
      go_wp2_with (first
        | (go_at_call 13; refine HMP.out.mono ?_; rintro e w2 ⟨A2, c2, rfl, ho2, hb2⟩; have HO2 := Lib.hid ho2; have HB2 := Lib.hid hb2; clear ho2 hb2)
        | (go_at_call 36; refine (same_any A2 A n c2 c (T.mapL N) hNL.out (by omega) _ (Rd.of_own HO2.out) ((Rd.of_own hO.out).below HB2.out |>.more HB2.out.size)).mono ?_; rintro e w3 ⟨rfl, hb3⟩; have HB3 := Lib.hid hb3; clear hb3))
      go_ret
      exact ⟨rfl, hB.out.trans ((HB2.out.trans (HB3.out.mono HB2.out.size)).mono hB.out.size)⟩
end
end Go.Proofs.Ytomdimplakmpeaa

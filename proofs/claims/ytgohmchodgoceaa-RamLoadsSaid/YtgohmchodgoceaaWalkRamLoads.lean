/-
  innkeeperlaw7.RamLoads returns true: its walk.
-/
import Derived.Test.YtgohmchodgoceaaLw
import Derived.Test.YtgohmchodgoceaaLc
import Derived.Test.YtgohmchodgoceaaWi1
import Derived.Deep.RegionHeld3
import Derived.Outline
namespace Go.Proofs.Ytgohmchodgoceaa
open Go.RowKit
set_option linter.unusedSimpArgs false
set_option linter.unusedVariables false

theorem slice_hi (A : Option Addr) (n c k : Nat) (hk : k ≤ c) (hc : c ≤ maxLen) (hA : A = none → c = 0) (w : World) :
    (Instr.sliceAt 29 (.slice A n c) none (some (.int .i64 k)) none).run Try.prog w = .ok (.slice A k c) w := by
  unfold maxLen at hc
  rcases A with _ | a
  · obtain rfl := hA rfl
    obtain rfl : k = 0 := by omega
    go_simp
  · go_simp
/-- b[k:], of a whole row -/
theorem slice_from (g n k : Nat) (hk : k ≤ n) (hn : n ≤ 4096) :
    ∃ Ax, (∀ W, (Instr.sliceAt 29 (.slice (some ⟨g, 0, none⟩) n n) (some (.int .i64 k)) none none).run Try.prog W = .ok (.slice Ax (n - k) (n - k)) W) ∧ ∀ W F, IsB W g n F → Rd W W.heap.size Ax (ub ((rowL F n).drop k)) := by
  by_cases h : n = k
  · subst h
    refine ⟨some ⟨g, 0, none⟩, fun W => ?_, fun W F hF => ?_⟩
    · go_simp
    · rw [List.drop_eq_nil_of_le (by rw [rowL_len]; exact Nat.le_refl _)]; exact Rd.nil_
  · refine ⟨some ⟨g, k, none⟩, fun W => ?_, fun W F hF => ?_⟩
    · have h3 : ¬ n = k := h
      go_simp
    · have := hF.rd
      rw [show (List.range n).map F = rowL F n from rfl] at this
      have h2 := Rd.drop this k
      rw [Nat.zero_add] at h2
      unfold ub at h2 ⊢
      rw [List.map_drop]; exact h2
theorem ld_b {X : Rm} {L : List Int} (h : L.length ≤ X.n * 64) (j : Nat) : (X.ldS L).b j = if j < L.length then L.getD j 0 else X.b j := by
  unfold Rm.ldS
  rw [if_pos h, wr_b, Nat.zero_add, Nat.sub_zero]
  by_cases h : j < L.length
  · rw [if_pos ⟨Nat.zero_le _, h⟩, if_pos h]
  · rw [if_neg (by omega), if_neg h]
theorem ld_n (X : Rm) (L : List Int) : (X.ldS L).n = X.n := by unfold Rm.ldS; split; exact wr_n _ _ _; rfl
theorem row_own (L : List Int) : rowL (fun j => L.getD j 0) L.length = L := by
  apply List.ext_getElem?
  intro j
  unfold rowL
  rw [range_get]
  split
  · rename_i h; rw [List.getD_eq_getElem?_getD, List.getElem?_eq_getElem h]; rfl
  · rename_i h; rw [List.getElem?_eq_none (by omega)]
theorem drop_row {F G : Nat → Int} {n k : Nat} (h : ∀ j, k ≤ j → j < n → F j = G j) : (rowL F n).drop k = (rowL G n).drop k := by
  apply List.ext_getElem?
  intro j
  unfold rowL
  rw [List.getElem?_drop, List.getElem?_drop, range_get, range_get]
  split
  · rw [h _ (by omega) (by assumption)]
  · rfl
set_option maxRecDepth 100000 in
set_option maxHeartbeats 4000000 in
theorem ramLoads_walk (A0 : Option Addr) (len0 cap0 : Nat) (z0 : List Int) (A1 : Option Addr) (len1 cap1 : Nat) (z1 : List Int) (a2 : Int) (w : World) (w0 : IsRow .u8 w A0 len0 cap0 z0) (w1 : IsRow .u8 w A1 len1 cap1 z1) (w2 : (Lit.int .i64 a2).wf = true) :
    Calls Try.prog 8 #[.slice A0 len0 cap0, .slice A1 len1 cap1, .int .i64 a2] w fun e w' => e = .returned (.bool true) ∧ Below w.heap.size w w' := by
  obtain ⟨hl0, hc0, hA0, l, hlen, hwf, hrd⟩ := w0.rd
  obtain ⟨hl1, hc1, hA1, v, hlenv, hwfv, hrdv⟩ := w1.rd
  obtain ⟨b0, b1⟩ := i64_of_wf w2
  have hl : ∀ x ∈ l, 0 ≤ x ∧ x < 256 := fun x hx => u8_of_wf (hwf x hx)
  have hv : ∀ x ∈ v, 0 ≤ x ∧ x < 256 := fun x hx => u8_of_wf (hwfv x hx)
  have hwd := within_one a2 4 b0 b1 (by omega) (by omega)
  obtain ⟨y0, y1⟩ := wdV_bd a2 1 4 (by omega)
  generalize wdV a2 1 4 = n at *
  obtain ⟨n, rfl⟩ := Int.eq_ofNat_of_zero_le (show 0 ≤ n by omega)
  have n1 : 1 ≤ n := by omega
  have n4 : n ≤ 4 := by omega
  obtain ⟨N, hN⟩ : ∃ N, n * 64 = N := ⟨_, rfl⟩
  have hNI : (n : Int) * 64 = (N : Int) := by omega
  have hN4 : N ≤ 256 := by omega
  have HN := Lib.hid hN
  have hcut := cut_any A0 len0 cap0 N hl0 hc0 hA0
  obtain ⟨m, hm⟩ : ∃ m, min len0 N = m := ⟨_, rfl⟩
  rw [hm] at hcut
  have hml : (l.take m).length = m := by rw [List.length_take]; omega
  have hLa : ∀ x ∈ l.take m, 0 ≤ x ∧ x < 256 := fun x hx => hl x (List.mem_of_mem_take hx)
  have hRa : Rd w w.heap.size A0 (ub (l.take m)) := by
    have := hrd.take m
    unfold ub; rw [List.map_take]; exact this
  have hm2 : m ≤ N := by omega
  generalize l.take m = La at *
  have HWD := Lib.hid hwd
  have HC := Lib.hid hcut
  have HA := Lib.hid (And.intro hml (And.intro hLa hRa))
  have HV := Lib.hid (And.intro hlenv (And.intro hv hrdv))
  have HM := Lib.hid hm2
  have HA1 := Lib.hid (And.intro hl1 (And.intro hc1 hA1))
  have hcl : len1 ≤ 9223372036854775807 := by unfold maxLen at hc1; omega
  clear hN hwd hcut hml hLa hRa hl hv hrd hrdv hwf hwfv hm hlenv w0 w1 w2 hA0 hl0 hc0 hlen hm2 y0 y1 b0 b1 hA1 hc1 hl1
  go_enter Try.func8, Try.ntmps8
  go_wp2_with (first
    | (go_at_call 16; refine (HWD.out _).mono ?_; rintro e w' ⟨rfl, rfl⟩)
    | (go_at_call 10; refine (freshM_any n n1 (by omega) _).mono ?_; rintro e wa ⟨p, rfl, hd⟩; have HD := Lib.hid hd; clear hd)
    | (go_at_call 17; refine (HC.out _).mono ?_; rintro e w' ⟨rfl, rfl⟩))
  have hLo := loadM_any A0 m cap0 La HA.out.1.symm HA.out.2.1 wa HD.out.m (RdM.of_rd (HA.out.2.2.below HD.out.b) HD.out.f.1 HD.out.f.2.2.1 HD.out.f.2.2.2.2 HD.out.b.size)
  rw [show (rm0 n).ldE m = 0 from if_pos (show m ≤ n * 64 by rw [HN.out]; exact HM.out)] at hLo
  have hXn := ld_n (rm0 n) La
  generalize (rm0 n).ldS La = X at *
  refine hLo.mono ?_
  rintro e wb ⟨rfl, hm1, ha1⟩
  have HD1 := Lib.hid (HD.out.left HD.out.b.size hm1 ha1)
  clear hLo HD hm1 ha1
  have hXn : X.n = n := hXn
  have hal := allM_any wb HD1.out.m
  rw [hXn, HN.out] at hal
  have HAL := Lib.hid hal
  unfold NewB at HAL
  clear hal
  have hs1 := HD1.out.b.size
  have HXN := Lib.hid hXn
  clear hXn
  by_cases hlt : len1 ≤ N
  · have hi1 : (len1 : Int) ≤ (N : Int) := by omega
    have hdec : decide ((len1 : Int) > (N : Int)) = false := by simp; omega
    go_wp2_with (first
      | (go_at_call 25; refine HAL.out.mono ?_; rintro e wc ⟨gw, rfl, hgw, hBw, hbc⟩
         have HD2 := Lib.hid (HD1.out.keep hs1 hbc)
         have HBW := Lib.hid hBw
         have HOF := Lib.hid (HD1.out.m.off hgw)
         clear HAL HD1 hBw hbc)
      | (go_at_call 22
         have hs2 := HD2.out.b.size
         have hLo := loadM_any A1 len1 cap1 v HV.out.1.symm HV.out.2.1 wc HD2.out.m (RdM.of_rd (HV.out.2.2.below HD2.out.b) HD2.out.f.1 HD2.out.f.2.2.1 HD2.out.f.2.2.2.2 hs2)
         rw [show X.ldE len1 = 0 from if_pos (by rw [HXN.out, HN.out]; exact hlt)] at hLo
         refine hLo.mono ?_
         rintro e wd ⟨rfl, hm3, ha3⟩
         have HD3 := Lib.hid (HD2.out.left hs2 hm3 ha3)
         have HBW3 := Lib.hid (IsC.alt HBW.out ha3 HOF.out.1.symm HOF.out.2.2.1.symm HOF.out.2.2.2.2.symm)
         have hs3 := HD3.out.b.size
         have hal := allM_any wd HD3.out.m
         rw [ld_n, HXN.out, HN.out] at hal
         have HAL3 := Lib.hid hal
         have HBD := Lib.hid (And.intro (fun j (hj : j < N) => HD2.out.m.bd j (by rw [HXN.out, HN.out]; exact hj)) (fun j (hj : j < N) => HD3.out.m.bd j (by rw [ld_n, HXN.out, HN.out]; exact hj)))
         unfold NewB at HAL3
         clear hLo hm3 ha3 hal HD2 HBW)
      | (go_at_call 25; refine HAL3.out.mono ?_; rintro e we ⟨gn, rfl, hgn, hBn, hbe⟩
         have HD4 := Lib.hid (HD3.out.keep hs3 hbe)
         have HBN := Lib.hid hBn
         have HBW4 := Lib.hid (IsC.after HBW3.out hbe)
         clear HAL3 HD3 hBn hbe HBW3))
    generalize hFF : (X.ldS v).b = F at *
    generalize hGG : X.b = G at *
    have hFv : ∀ j, F j = if j < v.length then v.getD j 0 else G j := fun j => by rw [← hFF, ← hGG]; exact ld_b (by rw [HV.out.1, HXN.out, HN.out]; exact hlt) j
    obtain ⟨hl1, hc1, hA1⟩ := HA1.out
    obtain ⟨hv1, hv2, hv3⟩ := HV.out
    have h4096 : N ≤ 4096 := by omega
    have hwr : IntKind.i64.wrap (N : Int) = (N : Int) := IntWalk.i64_in _ (by omega)
    have f1 := slice_hi (some ⟨gn, 0, none⟩) N N len1 hlt (by unfold maxLen; omega) (by simp)
    obtain ⟨Ax, f2, f2r⟩ := slice_from gn N len1 hlt h4096
    obtain ⟨Ay, f3, f3r⟩ := slice_from gw N len1 hlt h4096
    have e1 : rowL F len1 = v := by
      rw [← hv1]
      refine (rowL_congr fun j hj => ?_).trans (row_own v)
      rw [hFv, if_pos hj]
    have e2 : (rowL F N).drop len1 = (rowL G N).drop len1 := drop_row fun j h1 h2 => by rw [hFv, if_neg (by omega)]
    have s1 : ∀ W, Below we.heap.size we W → (convert 29 9 (.slice (some ⟨gn, 0, none⟩) len1 N)).run Try.prog W = .ok (.string (strL v)) W := fun W hb => by
      have := HBN.out.rd
      rw [show (List.range N).map F = rowL F N from rfl] at this
      have h2 := (this.take len1).below hb
      have e3 : (ub (rowL F N)).take len1 = ub v := by
        rw [← e1]; unfold ub rowL; rw [← List.map_take, ← List.map_take, List.take_range, Nat.min_eq_left hlt]
      rw [e3] at h2
      exact conv_L v len1 _ hv1 hv2 h2
    have s2 : ∀ W, Below we.heap.size we W → (convert 29 9 (.slice A1 len1 cap1)).run Try.prog W = .ok (.string (strL v)) W := fun W hb =>
      conv_L v len1 _ hv1 hv2 ((hv3.below HD4.out.b).below (hb.mono (HD4.out.size rfl)))
    have s3 : ∀ W, Below we.heap.size we W → (convert 29 9 (.slice Ax (N - len1) (N - len1))).run Try.prog W = .ok (.string (strL ((rowL F N).drop len1))) W := fun W hb =>
      conv_L _ _ _ (by rw [List.length_drop, rowL_len]) (fun x hx => rowL_mem HBD.out.2 x (List.mem_of_mem_drop hx)) (f2r W F (IsC.after HBN.out hb))
    have s4 : ∀ W, Below we.heap.size we W → (convert 29 9 (.slice Ay (N - len1) (N - len1))).run Try.prog W = .ok (.string (strL ((rowL F N).drop len1))) W := fun W hb => by
      rw [e2]
      exact conv_L _ _ _ (by rw [List.length_drop, rowL_len]) (fun x hx => rowL_mem HBD.out.1 x (List.mem_of_mem_drop hx)) (f3r W G (IsC.after HBW4.out hb))
    have HB := Lib.hid HD4.out.b
    generalize strL v = S1 at *
    generalize strL ((rowL F N).drop len1) = S2 at *
    have hs4 := HB.out.size
    clear hFF hGG hFv e1 e2 hv1 hv2 hv3 f2r f3r HBD HBN HBW4 HV HA1 HD4 hl1 hc1 hA1 HA HM HWD HC
    go_region_held3 (fun w' => Below we.heap.size we w')
      (first
        | exact (Below.refl _ _).drew
        | exact (Below.refl _ _).drew.trans HW5.out)
      ((go_at_call 15; refine (known_any _).mono ?_; rintro e w5 ⟨rfl, hw5⟩; have HW5 := Lib.hid hw5; clear hw5))
    go_wp2
    go_ret
    exact ⟨rfl, HB.out.trans (((Below.refl _ _).drew.trans HW5.out).mono hs4)⟩
  · have hi1 : (N : Int) < (len1 : Int) := by omega
    have hdec : decide ((len1 : Int) > (N : Int)) = true := by simp; omega
    go_wp2_with (first
      | (go_at_call 25; refine HAL.out.mono ?_; rintro e wc ⟨gw, rfl, hgw, hBw, hbc⟩
         have HD2 := Lib.hid (HD1.out.keep hs1 hbc)
         have HBW := Lib.hid hBw
         have HOF := Lib.hid (HD1.out.m.off hgw)
         clear HAL HD1 hBw hbc)
      | (go_at_call 22
         have hs2 := HD2.out.b.size
         have hLo := loadM_any A1 len1 cap1 v HV.out.1.symm HV.out.2.1 wc HD2.out.m (RdM.of_rd (HV.out.2.2.below HD2.out.b) HD2.out.f.1 HD2.out.f.2.2.1 HD2.out.f.2.2.2.2 hs2)
         rw [show X.ldE len1 = 3 from if_neg (by rw [HXN.out, HN.out]; exact hlt), show X.ldS v = X from if_neg (by rw [HV.out.1, HXN.out, HN.out]; exact hlt)] at hLo
         refine hLo.mono ?_
         rintro e wd ⟨rfl, hm3, ha3⟩
         have HD3 := Lib.hid (HD2.out.left hs2 hm3 ha3)
         have HBW3 := Lib.hid (IsC.alt HBW.out ha3 HOF.out.1.symm HOF.out.2.2.1.symm HOF.out.2.2.2.2.symm)
         have hs3 := HD3.out.b.size
         have hal := allM_any wd HD3.out.m
         rw [HXN.out, HN.out] at hal
         have HAL3 := Lib.hid hal
         have HBD := Lib.hid (fun j (hj : j < N) => HD2.out.m.bd j (by rw [HXN.out, HN.out]; exact hj))
         unfold NewB at HAL3
         clear hLo hm3 ha3 hal HD2 HBW)
      | (go_at_call 25; refine HAL3.out.mono ?_; rintro e we ⟨gn, rfl, hgn, hBn, hbe⟩
         have HD4 := Lib.hid (HD3.out.keep hs3 hbe)
         have f1 := conv_B hBn HBD.out N
         have f2 := conv_B (IsC.after HBW3.out hbe) HBD.out N
         generalize strL (rowL X.b N) = S1 at *
         clear HAL3 HD3 hBn hbe HBW3)
      | (go_at_call 15; refine (known_any _).mono ?_; rintro e w5 ⟨rfl, hw5⟩; have HW5 := Lib.hid hw5; clear hw5))
    go_ret
    exact ⟨rfl, HD4.out.b.trans (HW5.out.mono HD4.out.b.size)⟩
end Go.Proofs.Ytgohmchodgoceaa

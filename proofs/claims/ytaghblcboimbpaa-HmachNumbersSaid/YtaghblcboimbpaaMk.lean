/-
  innkeeperlaw4.alike: A CONTRACT.
-/
import Derived.Test.YtaghblcboimbpaaMa
import Derived.Deep.QuietTactic
import Derived.BigQuiet
import Derived.Outline
namespace Go.Proofs.Ytaghblcboimbpaa
open Go.RowKit
set_option linter.unusedSimpArgs false
set_option linter.unusedVariables false

theorem quiet_l {P : Program} {f : FuncId} {args : Array Value} {w : World} {n : Nat} {v : Value}
    (h : Calls P f args (w.drewN n) fun e w' => e = .returned v ∧ w.drewN n = w') : Calls P f args (w.drewN n) fun e w'' => e = .returned v ∧ ∃ m, w'' = w.drewN m :=
  h.mono fun _ _ ⟨he, hm⟩ => ⟨he, n, hm.symm⟩
theorem IsM.drewN {k : IntKind} {T : TypeId} {B : Nat} {w : World} {P : Mp} {M : Mc} (h : IsM k T B w P M) (n : Nat) : IsM k T B (w.drewN n) P M := h.below (Below_drewN (Below.refl _ _) n)
theorem word_out {T : TypeId} {B : Nat} {P : Mp} {M : Mc} {nW : Nat} (hn : M.W.length = nW) (i : Int) (hi : wo nW i = false) (w : World) (hM : IsM .u32 T B w P M) :
    Calls Try.prog 26 #[.pointer (some ⟨P.g, 0, none⟩), .int .i64 i] w fun e w' => e = .returned (.int .u32 0) ∧ w = w' := by
  have h := word_any i w hM
  have e : M.word i = 0 := by unfold Mc.word; rw [hn, hi]; rfl
  rw [e] at h; exact h

set_option maxRecDepth 100000 in
set_option maxHeartbeats 2000000 in
theorem alike_any (T T' : TypeId) (B : Nat) (P Q : Mp) (M : Mc) (w : World) (hM : IsM .u32 T B w P M) (hN : IsM .i64 T' B w Q M) :
    Calls Try.prog 17 #[.pointer (some ⟨P.g, 0, none⟩), .pointer (some ⟨Q.g, 0, none⟩)] w fun e w' => e = .returned (.bool true) ∧ Below w.heap.size w w' := by
  have HM := Lib.hid hM
  have HN := Lib.hid hN
  have hW := hM.good.w1
  obtain ⟨nW, hnW⟩ : ∃ n, n = M.W.length := ⟨_, rfl⟩
  rw [← hnW] at hW
  have HNW := Lib.hid hnW
  clear hM hN hnW
  go_enter Try.func17, Try.ntmps17
  go_wp2_with fail
  go_loop [5] (fun i => ∃ z : Int, -1 ≤ z ∧ z ≤ 17 ∧ i = .int .i64 z) (fun i => (17 - intOf i).toNat)
  case atStart => exact ⟨-1, by omega, by omega, rfl⟩
  case round =>
    obtain ⟨z, z0, z1, rfl⟩ := hrel
    have hr := reg_any z w HM.out
    by_cases h17 : z ≤ 16
    · by_cases h0 : 0 ≤ z ∧ z < 16
      · obtain ⟨h0, h16⟩ := h0
        have e : M.reg z = M.R.getD z.toNat 0 := by unfold Mc.reg; rw [if_pos (by simp [rg]; omega)]
        rw [e] at hr
        obtain ⟨k, rfl⟩ := Int.eq_ofNat_of_zero_le h0
        have hc := HN.out.reg k (by omega)
        simp only [Int.toNat_natCast] at hr
        generalize M.R.getD k 0 = x at *
        have HR := Lib.hid hr
        clear hr e
        go_wp2_with (go_at_call 25; refine HR.out.mono ?_; rintro e w' ⟨rfl, rfl⟩)
        go_round
        case rel => exact ⟨(k : Int) + 1, by omega, by omega, by go_num⟩
        case measure => simp [intOf]; omega
      · have e : M.reg z = 0 := by unfold Mc.reg; rw [if_neg (by simp [rg]; omega)]
        rw [e] at hr
        have HR := Lib.hid hr
        clear hr e
        have hcase : z = -1 ∨ z = 16 := by omega
        clear h0
        rcases hcase with rfl | rfl
        all_goals
          go_wp2_with (go_at_call 25; refine HR.out.mono ?_; rintro e w' ⟨rfl, rfl⟩)
          go_round
          case rel => exact ⟨_, by omega, by omega, rfl⟩
          case measure => simp [intOf]
    · obtain rfl : z = 17 := by omega
      clear hr h17 z0 z1
      go_wp2_with fail
      go_loopw [7] (fun i wr => ∃ k : Nat, k ≤ nW ∧ i = .int .i64 k ∧ Hid (Below w.heap.size w wr)) (fun i _ => nW - (intOf i).toNat)
      case atStart => exact ⟨0, by omega, rfl, Lib.hid (Below.refl _ _)⟩
      case round =>
        obtain ⟨k, hk, rfl, hB⟩ := hrel
        have hMr := HM.out.below hB.out
        have hNr := HN.out.below hB.out
        have HMr := Lib.hid hMr
        have HNr := Lib.hid hNr
        have hcw := hNr.cw
        unfold vws at hcw
        rw [← HNW.out] at hcw
        clear hMr hNr
        by_cases hlt : k < nW
        · have hc := HNr.out.word k (by rw [← HNW.out]; exact hlt)
          have hwd := fun n => word_any (k : Int) (wr.drewN n) (HMr.out.drewN n)
          have e : M.word (k : Int) = M.W.getD k 0 := by unfold Mc.word; rw [if_pos (by rw [← HNW.out]; simp [wo]; omega)]; rfl
          rw [e] at hwd
          generalize M.W.getD k 0 = x at *
          have HW := Lib.hid hwd
          have hki : (k : Int) < (nW : Int) := by omega
          clear hwd e
          go_wp2_with fail
          go_quiet ((go_at_call 26; exact quiet_l (HW.out _)))
          go_wp2_with fail
          go_roundw
          case rel => exact ⟨k + 1, by omega, by go_num, Lib.hid (Below_drewN hB.out _)⟩
          case measure => simp [intOf]; omega
        · have hkk : k = nW := by omega
          subst hkk
          have hcp := HNr.out.cp
          have hw1 := fun n => word_out HNW.out.symm (-1) (by simp [wo]) (wr.drewN n) (HMr.out.drewN n)
          have hw2 := fun n => word_out HNW.out.symm (k : Int) (by simp [wo]) (wr.drewN n) (HMr.out.drewN n)
          have hws := fun n => words_any (wr.drewN n) (HMr.out.drewN n)
          have hat := fun n => at_any (wr.drewN n) (HMr.out.drewN n)
          rw [← HNW.out] at hws
          generalize M.p = p at *
          have HW1 := Lib.hid hw1
          have HW2 := Lib.hid hw2
          have HWS := Lib.hid hws
          have HAT := Lib.hid hat
          clear hw1 hw2 hws hat hlt
          go_wp2_with fail
          go_quiet ((first
            | (go_at_call 35; exact quiet_l (HWS.out _))
            | (go_at_call 22; exact quiet_l (HAT.out _))
            | (go_at_call 26; with_reducible exact quiet_l (HW1.out _))
            | (go_at_call 26; with_reducible exact quiet_l (HW2.out _))))
          go_wp2_with fail
          go_ret
          exact ⟨rfl, Below_drewN hB.out _⟩
end Go.Proofs.Ytaghblcboimbpaa

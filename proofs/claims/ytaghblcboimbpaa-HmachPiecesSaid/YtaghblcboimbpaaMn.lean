/-
  Run of both machines: A CONTRACT EACH.
-/
import Derived.Test.YtaghblcboimbpaaMs
import Derived.Test.YtaghblcboimbpaaMt
import Derived.Deep.LoopGhost
namespace Go.Proofs.Ytaghblcboimbpaa
open Go.RowKit
set_option linter.unusedSimpArgs false
set_option linter.unusedVariables false

/-- how a run came out -/
structure Rn where
  how : Int
  imm : Int
  cnt : Nat
  m : Mc
def Rn.more (r : Rn) (k : Nat) : Rn := ⟨r.how, r.imm, r.cnt + k, r.m⟩
/-- a run of so many steps -/
def rn : Nat → Mc → Rn
  | 0, M => ⟨5, 0, 0, M⟩
  | n + 1, M => if stR M = 1 then ⟨1, M.q.n, 0, M⟩ else if stR M ≠ 0 then ⟨stR M, 0, 0, M⟩ else (rn n (stM M)).more 1
theorem more_more (r : Rn) (j k : Nat) : (r.more j).more k = r.more (j + k) := by simp [Rn.more, Nat.add_assoc]
theorem more_zero (r : Rn) : r.more 0 = r := rfl
theorem rn_exit {n : Nat} {M : Mc} (hn : 0 < n) (h : stR M = 1) : rn n M = ⟨1, M.q.n, 0, M⟩ := by
  obtain ⟨k, rfl⟩ : ∃ k, n = k + 1 := ⟨n - 1, by omega⟩
  unfold rn; rw [if_pos h]
theorem rn_stop {n : Nat} {M : Mc} (hn : 0 < n) (h : stR M ≠ 1) (h0 : stR M ≠ 0) : rn n M = ⟨stR M, 0, 0, M⟩ := by
  obtain ⟨k, rfl⟩ : ∃ k, n = k + 1 := ⟨n - 1, by omega⟩
  unfold rn; rw [if_neg h, if_pos h0]
theorem rn_on {n : Nat} {M : Mc} (hn : 0 < n) (h : stR M = 0) : rn n M = (rn (n - 1) (stM M)).more 1 := by
  obtain ⟨k, rfl⟩ : ∃ k, n = k + 1 := ⟨n - 1, by omega⟩
  rw [Nat.add_sub_cancel]
  conv => lhs; unfold rn
  rw [if_neg (by rw [h]; omega), if_neg (by rw [h]; omega)]
theorem stR_exit {M : Mc} (h : stR M = 1) : M.p < M.C.length := by
  unfold stR at h
  split at h
  · omega
  · omega
theorem stR_bd (M : Mc) : stR M = 0 ∨ stR M = 1 ∨ stR M = 2 ∨ stR M = 4 := by
  unfold stR
  split
  · simp
  split
  · simp
  split <;> simp

theorem ret_run {a a' b b' c c' : Int} (h1 : a = a') (h2 : b = b') (h3 : c = c') : Ending.returned (.tuple #[.int .i64 a, .int .u32 b, .int .i64 c]) = .returned (.tuple #[.int .i64 a', .int .u32 b', .int .i64 c']) := by rw [h1, h2, h3]
/-- what Run leaves -/
def Ran (k : IntKind) (T : TypeId) (B : Nat) (P : Mp) (r : Rn) (w : World) (e : Ending) (w' : World) : Prop :=
  e = .returned (.tuple #[.int .i64 r.how, .int .u32 r.imm, .int .i64 r.cnt]) ∧ IsM k T B w' P r.m ∧ Turn P.g P.gw w w'

set_option maxRecDepth 100000 in
set_option maxHeartbeats 2000000 in
theorem run_any (T : TypeId) (B : Nat) (P : Mp) (M : Mc) (S : Int) (h1 : S ≤ 9223372036854775807) (w : World) (hM : IsM .u32 T B w P M) :
    Calls Try.prog 18 #[.pointer (some ⟨P.g, 0, none⟩), .int .i64 S] w (Ran .u32 T B P (rn S.toNat M) w) := by
  have HM := Lib.hid hM
  clear hM
  obtain ⟨n, hn⟩ : ∃ n, n = S.toNat := ⟨_, rfl⟩
  rw [← hn]
  have HN := Lib.hid hn
  clear hn
  go_enter Try.func18, Try.ntmps18
  go_wp2_with fail
  go_loopw [7] (fun i wr => ∃ (k : Nat) (Mk : Mc), i = .int .i64 k ∧ k ≤ n ∧ Hid (rn n M = (rn (n - k) Mk).more k) ∧ Hid (IsM .u32 T B wr P Mk) ∧ Hid (Turn P.g P.gw w wr)) (fun i _ => n - (intOf i).toNat)
  case atStart => exact ⟨0, M, rfl, by omega, Lib.hid rfl, HM, Lib.hid (Turn.refl _ _ _)⟩
  case round =>
    obtain ⟨k, Mk, rfl, hk, hR, hI, hT⟩ := hrel
    have hS := HN.out
    by_cases hlt : (k : Int) < S
    · have hkn : k < n := by omega
      have hst := step_any T B P Mk wr hI.out
      have HST := Lib.hid hst
      clear hst
      rcases stR_bd Mk with c | c | c
      · clear hS
        go_wp2_with fail
        refine HST.out.mono ?_
        rintro e w1 ⟨he, hI1, hT1⟩
        rw [c] at he
        subst he
        have HI1 := Lib.hid hI1
        have HT1 := Lib.hid (hT.out.trans hT1)
        have HR1 := Lib.hid (show rn n M = (rn (n - (k + 1)) (stM Mk)).more (k + 1) by rw [hR.out, rn_on (by omega) c, more_more, Nat.add_comm 1 k]; rfl)
        clear hI1 hT1 c
        go_wp2_with fail
        go_roundw
        case rel => exact ⟨k + 1, stM Mk, by go_num, by omega, HR1, HI1, HT1⟩
        case measure => simp [intOf]; omega
      · clear hS
        go_wp2_with fail
        refine HST.out.mono ?_
        rintro e w1 ⟨he, hI1, hT1⟩
        rw [c] at he
        subst he
        have e1 : stM Mk = Mk := by unfold stM; rw [if_pos (by rw [c]; omega)]
        rw [e1] at hI1
        have HI1 := Lib.hid hI1
        have HT1 := Lib.hid (hT.out.trans hT1)
        have HR1 := Lib.hid (show rn n M = ⟨1, Mk.q.n, k, Mk⟩ by rw [hR.out, rn_exit (by omega) c]; simp [Rn.more])
        obtain ⟨gc, off, p, d, a, b, o, m, hA, hx, hq, _⟩ := cx_of hI1 (stR_exit c)
        have k17 := hx.h1
        have k18 := hx.h2
        have e4 := hx.e4
        have hpn := hq.pn
        have hqn : Mk.q.n = m := by rw [hq.qq]
        have hcl := hI1.good.cl
        generalize Mk.C.length = nC at *
        have HQN := Lib.hid hqn
        clear hI1 hT1 c hx hq hA hqn
        go_wp2_with fail
        go_quiet (fail)
        go_wp2_with fail
        go_ret3
        rw [HR1.out]
        refine ⟨by simp [HQN.out], HI1.out.below (Below_drewN (Below.refl _ _) _), HT1.out.trans (Turn.of_below (Below_drewN (Below.refl _ _) _))⟩
      · have HR1 := Lib.hid (show rn n M = ⟨stR Mk, 0, k, Mk⟩ by rw [hR.out, rn_stop (by omega) (by omega) (by omega)]; simp [Rn.more])
        clear hS
        go_wp2_with fail
        refine HST.out.mono ?_
        rintro e w1 ⟨he, hI1, hT1⟩
        have e1 : stM Mk = Mk := by unfold stM; rw [if_pos (by omega)]
        rw [e1] at hI1
        have HI1 := Lib.hid hI1
        have HT1 := Lib.hid (hT.out.trans hT1)
        generalize hs : stR Mk = s at *
        subst he
        have hs1 : (s == 1) = false := by rw [beq_eq_false_iff_ne]; omega
        have hs0 : (s != 0) = true := by rw [bne_iff_ne]; omega
        clear hI1 hT1 c hs
        go_wp2_with fail
        go_ret3
        rw [HR1.out]
        exact ⟨rfl, HI1.out, HT1.out⟩
    · have hkn : k = n := by omega
      subst hkn
      have HR1 := Lib.hid (show rn k M = ⟨5, 0, k, Mk⟩ by rw [hR.out, Nat.sub_self]; simp [rn, Rn.more])
      clear hS
      go_wp2_with fail
      all_goals
        go_ret3
        rw [HR1.out]
        refine ⟨ret_run rfl rfl ?_, hI.out, hT.out⟩
        have := HN.out
        simp only
        omega
set_option maxRecDepth 100000 in
set_option maxHeartbeats 2000000 in
theorem rrun_any (T : TypeId) (B : Nat) (P : Mp) (M : Mc) (S : Int) (h1 : S ≤ 9223372036854775807) (w : World) (hM : IsM .i64 T B w P M) :
    Calls Try.prog 21 #[.pointer (some ⟨P.g, 0, none⟩), .int .i64 S] w (Ran .i64 T B P (rn S.toNat M) w) := by
  have HM := Lib.hid hM
  clear hM
  obtain ⟨n, hn⟩ : ∃ n, n = S.toNat := ⟨_, rfl⟩
  rw [← hn]
  have HN := Lib.hid hn
  clear hn
  go_enter Try.func21, Try.ntmps21
  go_wp2_with fail
  go_loopw [7] (fun i wr => ∃ (k : Nat) (Mk : Mc), i = .int .i64 k ∧ k ≤ n ∧ Hid (rn n M = (rn (n - k) Mk).more k) ∧ Hid (IsM .i64 T B wr P Mk) ∧ Hid (Turn P.g P.gw w wr)) (fun i _ => n - (intOf i).toNat)
  case atStart => exact ⟨0, M, rfl, by omega, Lib.hid rfl, HM, Lib.hid (Turn.refl _ _ _)⟩
  case round =>
    obtain ⟨k, Mk, rfl, hk, hR, hI, hT⟩ := hrel
    have hS := HN.out
    by_cases hlt : (k : Int) < S
    · have hkn : k < n := by omega
      have hst := rstep_any T B P Mk wr hI.out
      have HST := Lib.hid hst
      clear hst
      rcases stR_bd Mk with c | c | c
      · clear hS
        go_wp2_with fail
        refine HST.out.mono ?_
        rintro e w1 ⟨he, hI1, hT1⟩
        rw [c] at he
        subst he
        have HI1 := Lib.hid hI1
        have HT1 := Lib.hid (hT.out.trans hT1)
        have HR1 := Lib.hid (show rn n M = (rn (n - (k + 1)) (stM Mk)).more (k + 1) by rw [hR.out, rn_on (by omega) c, more_more, Nat.add_comm 1 k]; rfl)
        clear hI1 hT1 c
        go_wp2_with fail
        go_roundw
        case rel => exact ⟨k + 1, stM Mk, by go_num, by omega, HR1, HI1, HT1⟩
        case measure => simp [intOf]; omega
      · clear hS
        go_wp2_with fail
        refine HST.out.mono ?_
        rintro e w1 ⟨he, hI1, hT1⟩
        rw [c] at he
        subst he
        have e1 : stM Mk = Mk := by unfold stM; rw [if_pos (by rw [c]; omega)]
        rw [e1] at hI1
        have HI1 := Lib.hid hI1
        have HT1 := Lib.hid (hT.out.trans hT1)
        have HR1 := Lib.hid (show rn n M = ⟨1, Mk.q.n, k, Mk⟩ by rw [hR.out, rn_exit (by omega) c]; simp [Rn.more])
        obtain ⟨gc, off, p, d, a, b, o, m, hA, hx, hq, _⟩ := cx_of hI1 (stR_exit c)
        have k17 := hx.h1
        have k18 := hx.h2
        have e4 := hx.e4
        have hpn := hq.pn
        have hqn : Mk.q.n = m := by rw [hq.qq]
        have hcl := hI1.good.cl
        generalize Mk.C.length = nC at *
        have HQN := Lib.hid hqn
        clear hI1 hT1 c hx hq hA hqn
        go_wp2_with fail
        go_quiet (fail)
        go_wp2_with fail
        go_ret3
        rw [HR1.out]
        refine ⟨by simp [HQN.out], HI1.out.below (Below_drewN (Below.refl _ _) _), HT1.out.trans (Turn.of_below (Below_drewN (Below.refl _ _) _))⟩
      · have HR1 := Lib.hid (show rn n M = ⟨stR Mk, 0, k, Mk⟩ by rw [hR.out, rn_stop (by omega) (by omega) (by omega)]; simp [Rn.more])
        clear hS
        go_wp2_with fail
        refine HST.out.mono ?_
        rintro e w1 ⟨he, hI1, hT1⟩
        have e1 : stM Mk = Mk := by unfold stM; rw [if_pos (by omega)]
        rw [e1] at hI1
        have HI1 := Lib.hid hI1
        have HT1 := Lib.hid (hT.out.trans hT1)
        generalize hs : stR Mk = s at *
        subst he
        have hs1 : (s == 1) = false := by rw [beq_eq_false_iff_ne]; omega
        have hs0 : (s != 0) = true := by rw [bne_iff_ne]; omega
        clear hI1 hT1 c hs
        go_wp2_with fail
        go_ret3
        rw [HR1.out]
        exact ⟨rfl, HI1.out, HT1.out⟩
    · have hkn : k = n := by omega
      subst hkn
      have HR1 := Lib.hid (show rn k M = ⟨5, 0, k, Mk⟩ by rw [hR.out, Nat.sub_self]; simp [rn, Rn.more])
      clear hS
      go_wp2_with fail
      all_goals
        go_ret3
        rw [HR1.out]
        refine ⟨ret_run rfl rfl ?_, hI.out, hT.out⟩
        simp
end Go.Proofs.Ytaghblcboimbpaa

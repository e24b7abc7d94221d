/-
  RUNS IN PIECES; Within, of any bounds; two machines side by side.
-/
import Derived.Test.YtaghblcboimbpaaMw
import Derived.Test.YtaghblcboimbpaaRowH
import Derived.Test.YtaghblcboimbpaaRowI
import Derived.Outline
namespace Go.Proofs.Ytaghblcboimbpaa
open Go.RowKit
set_option linter.unusedSimpArgs false
set_option linter.unusedVariables false

theorem u64_of_wf {n : Int} (h : (Lit.int .u64 n).wf = true) : U64 n := by
  simp [Lit.wf, IntKind.min, IntKind.max, IntKind.bits, IntKind.signed] at h; unfold U64; omega
theorem RdI.more {w : World} {B B' : Nat} {A : Option Addr} {L : List Hi} (h : RdI w B A L) (hB : B ≤ B') : RdI w B' A L := fun hn => by
  obtain ⟨g, off, e, hg, hc⟩ := h hn
  exact ⟨g, off, e, by omega, hc⟩
theorem own_turn {g h B : Nat} {e : TypeId} {size : Nat} {v : Value} {n : Nat} {xs : List Value} {w w' : World} (o : w.ownsRow B e size v n xs) (t : Turn g h w w') (hg : g < B) (hh : h < B) : w'.ownsRow B e size v n xs :=
  own_keep o fun i hi hl => t.block i hl (by omega) (by omega)
theorem rn_cnt (n : Nat) : ∀ M, (rn n M).cnt ≤ n := by
  induction n with
  | zero => intro M; simp [rn]
  | succ n ih =>
    intro M
    unfold rn
    split
    · simp
    split
    · simp
    · have := ih (stM M); simp [Rn.more]; omega
/-- two pieces are one -/
theorem rn_add (n m : Nat) (hm : 0 < m) : ∀ M, rn (n + m) M = (rn m (rn n M).m).more (rn n M).cnt := by
  induction n with
  | zero => intro M; simp [rn, Rn.more]
  | succ n ih =>
    intro M
    by_cases h1 : stR M = 1
    · rw [rn_exit (by omega) h1, rn_exit (by omega) h1, rn_exit hm h1]; rfl
    by_cases h0 : stR M = 0
    · rw [rn_on (by omega) h0, show n + 1 + m - 1 = n + m by omega, ih, rn_on (n := n + 1) (by omega) h0]
      simp [Rn.more, Nat.add_assoc]
    · rw [rn_stop (by omega) h1 h0, rn_stop (by omega) h1 h0, rn_stop hm h1 h0]; rfl
/-- what has come to an end stays there -/
theorem rn_end (n m : Nat) (hm : 0 < m) : ∀ M, (rn n M).how = 5 ∨ ((rn m (rn n M).m).how = (rn n M).how ∧ (rn m (rn n M).m).cnt = 0) := by
  induction n with
  | zero => intro M; left; rfl
  | succ n ih =>
    intro M
    by_cases h1 : stR M = 1
    · right; rw [rn_exit (n := n + 1) (by omega) h1, rn_exit hm h1]; simp
    by_cases h0 : stR M = 0
    · rw [rn_on (n := n + 1) (by omega) h0]; simpa [Rn.more] using ih (stM M)
    · right; rw [rn_stop (n := n + 1) (by omega) h1 h0, rn_stop hm h1 h0]; simp

set_option maxRecDepth 100000 in
theorem within_any (n lo hi : Int) (b0 : -9223372036854775808 ≤ n) (b1 : n ≤ 9223372036854775807) (l0 : -1000000 ≤ lo) (hlh : lo ≤ hi) (h1 : hi ≤ 1000000) (w : World) :
    Calls Try.prog 20 #[.int .i64 n, .int .i64 lo, .int .i64 hi] w fun e w' => e = .returned (.int .i64 (wdV n lo hi)) ∧ w = w' := by
  obtain ⟨t0, t1⟩ := tmod_bd n (hi - lo + 1) (by omega)
  have hz : (hi - lo + 1 == 0) = false := by rw [beq_eq_false_iff_ne]; omega
  have hz1 : 1 ≤ hi - lo + 1 := by omega
  by_cases hn : n.tmod (hi - lo + 1) < 0
  · have e := tmod_neg n (hi - lo + 1) (by omega) hn
    have e2 : wdV n lo hi = lo + (n.tmod (hi - lo + 1) + hi - lo + 1) := by unfold wdV; rw [e]; omega
    rw [e2]; clear e e2
    have hneg : n < 0 := by
      rcases Int.lt_or_le n 0 with h | h
      · exact h
      · have := Int.tmod_nonneg (hi - lo + 1) h; omega
    go_enter Try.func20, Try.ntmps20
    go_wp2
    go_ret
    exact ⟨rfl, rfl⟩
  · have e := tmod_nonneg' n (hi - lo + 1) (by omega) hn
    have e2 : wdV n lo hi = lo + n.tmod (hi - lo + 1) := by unfold wdV; rw [e]
    rw [e2]; clear e e2
    go_enter Try.func20, Try.ntmps20
    go_wp2
    go_ret
    exact ⟨rfl, rfl⟩
end Go.Proofs.Ytaghblcboimbpaa

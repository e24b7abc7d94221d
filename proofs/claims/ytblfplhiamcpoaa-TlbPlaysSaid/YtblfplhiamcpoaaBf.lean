/-
  tlb: slotOf, pageOf, needed, leads: A CONTRACT EACH.
-/
import Derived.Test.YtblfplhiamcpoaaTb
import Derived.Test.YtblfplhiamcpoaaProg
import Derived.Deep.QuietTactic
import Derived.BigQuiet
import Derived.Outline
namespace Go.Proofs.Ytblfplhiamcpoaa
open Go.RowKit
set_option linter.unusedSimpArgs false
set_option linter.unusedVariables false

theorem quiet_l {P : Program} {f : FuncId} {args : Array Value} {w : World} {n : Nat} {v : Value}
    (h : Calls P f args (w.drewN n) fun e w' => e = .returned v ∧ w.drewN n = w') : Calls P f args (w.drewN n) fun e w'' => e = .returned v ∧ ∃ m, w'' = w.drewN m :=
  h.mono fun _ _ ⟨he, hm⟩ => ⟨he, n, hm.symm⟩
theorem page_any (V : Int) (h0 : 0 ≤ V) (h1 : V < 4294967296) (w : World) :
    Calls Try.prog 23 #[.int .u32 V] w fun e w' => e = .returned (.int .u32 (V / 64)) ∧ w = w' := by
  have hq : V.tdiv 64 = V / 64 := Int.tdiv_eq_ediv_of_nonneg h0
  go_enter Try.func23, Try.ntmps23
  go_wp2
  go_ret
  exact ⟨rfl, rfl⟩
theorem slot_any (n : Int) (h0 : 0 ≤ n) (h1 : n < 4294967296) (w : World) :
    Calls Try.prog 21 #[.int .u32 n] w fun e w' => e = .returned (.int .u32 ((sl n : Nat) : Int)) ∧ w = w' := by
  have hq : n.tmod 16 = n % 16 := Int.tmod_eq_emod_of_nonneg h0
  rw [sl_cast]
  go_enter Try.func21, Try.ntmps21
  go_wp2
  go_ret
  exact ⟨rfl, rfl⟩
set_option maxRecDepth 100000 in
theorem needed_any (k : Int) (s : Bool) (w : World) :
    Calls Try.prog 22 #[.int .i64 k, .bool s] w fun e w' => e = .returned (.int .u32 (nd k s)) ∧ w = w' := by
  rcases (show k = 1 ∨ k = 2 ∨ k = 3 ∨ (k ≠ 1 ∧ k ≠ 2 ∧ k ≠ 3) by omega) with rfl | rfl | rfl | ⟨h1, h2, h3⟩
  case inr.inr.inr =>
    have e1 : (k == 1) = false := by simpa using h1
    have e2 : (k == 2) = false := by simpa using h2
    have e3 : (k == 3) = false := by simpa using h3
    rw [(nd_zero k s).2 (by omega)]
    cases s
    all_goals
      go_enter Try.func22, Try.ntmps22
      go_wp2
      go_ret
      exact ⟨rfl, rfl⟩
  all_goals
    cases s
    all_goals
      go_enter Try.func22, Try.ntmps22
      go_wp2
      go_ret
      exact ⟨rfl, rfl⟩
/-- does an entry belong to an address's page? -/
def ldB (e : En) (V : Int) : Bool := e.v && decide (e.n = V / 64)
set_option maxRecDepth 100000 in
theorem leads_any (e : En) (V : Int) (h0 : 0 ≤ V) (h1 : V < 4294967296) (w : World) :
    Calls Try.prog 24 #[e.ag, .int .u32 V] w fun r w' => r = .returned (.bool (ldB e V)) ∧ Below w.heap.size w w' := by
  have hpg := page_any V h0 h1
  obtain ⟨v, n, p, b⟩ := e
  unfold En.ag ldB
  have HP := Lib.hid hpg
  have hc := fun i => (Blk.new w 35 #[.bool v, .int .u32 n, .int .u32 p, .int .u32 b]).cell i
  have c0 := hc 0
  have c1 := hc 1
  simp only [List.getElem?_toArray, List.getElem?_cons_zero, List.getElem?_cons_succ] at c0 c1
  have HB := Lib.hid ((Below.refl w.heap.size w).alloc (Nat.le_refl _) (.cells #[.bool v, .int .u32 n, .int .u32 p, .int .u32 b] 35))
  clear hpg hc
  generalize V / 64 = Q at *
  cases v
  · go_enter Try.func24, Try.ntmps24
    go_wp2_with fail
    generalize w.alloc (.cells #[.bool false, .int .u32 n, .int .u32 p, .int .u32 b] 35) = W at *
    generalize hX : w.heap.size = X at *
    go_quiet ((go_at_call 23; exact quiet_l (HP.out _)))
    go_wp2
    go_ret
    subst hX
    exact ⟨rfl, Below_drewN HB.out _⟩
  · have hd : (n == Q) = decide (n = Q) := by rw [Bool.eq_iff_iff]; simp
    go_enter Try.func24, Try.ntmps24
    go_wp2_with fail
    generalize w.alloc (.cells #[.bool true, .int .u32 n, .int .u32 p, .int .u32 b] 35) = W at *
    generalize hX : w.heap.size = X at *
    go_quiet ((go_at_call 23; exact quiet_l (HP.out _)))
    go_wp2
    go_ret
    subst hX
    exact ⟨by simp, Below_drewN HB.out _⟩
end Go.Proofs.Ytblfplhiamcpoaa

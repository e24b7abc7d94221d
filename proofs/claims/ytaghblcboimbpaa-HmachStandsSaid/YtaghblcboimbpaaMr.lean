/-
  hmach.result, number, innkeeperref4.alu: A CONTRACT EACH.
-/
import Derived.Test.YtaghblcboimbpaaHinf
import Derived.Deep.Light
import Derived.Laws.Closers25b
namespace Go.Proofs.Ytaghblcboimbpaa
open Go.RowKit
set_option linter.unusedSimpArgs false
set_option linter.unusedVariables false

/-- what an operation on registers puts into one -/
def alV (o a b : Int) : Int :=
  if o = 2 then a else if o = 3 then IntKind.u64.wrap (a + b) else if o = 4 then IntKind.u64.wrap (a - b) else if o = 5 then bits .and .u64 a b else if o = 6 then bits .or .u64 a b
  else if o = 7 then bits .xor .u64 a b else if o = 8 then IntKind.u64.wrap (a * 2 ^ min b.toNat 64) else if o = 9 then a / 2 ^ min b.toNat 64 else if o = 10 then IntKind.u64.wrap (a * b)
  else if o = 11 then (if b = 0 then 0 else IntKind.u64.wrap (a.tdiv b)) else if o = 12 then (if a < b then 1 else 0) else if o = 13 then (if a = b then 1 else 0) else 0
theorem u64_wrap (x : Int) : IntKind.u64.wrap x = x % 18446744073709551616 := by
  simp [IntKind.wrap, IntKind.bits, IntKind.signed]
theorem u64_nn (x : Int) : 0 ≤ IntKind.u64.wrap x := by rw [u64_wrap]; omega
theorem ret_u64 {a b : Int} (h : a = b) : Ending.returned (.int .u64 a) = .returned (.int .u64 b) := by rw [h]

theorem number_any (b : Bool) (w : World) :
    Calls Try.prog 38 #[.bool b] w fun e w' => e = .returned (.int .u64 (if b = true then 1 else 0)) ∧ w = w' := by
  cases b
  all_goals
    go_enter Try.func38, Try.ntmps38
    go_wp2
    go_ret
    exact ⟨rfl, rfl⟩
set_option maxRecDepth 100000 in
set_option maxHeartbeats 2000000 in
theorem result_any (o a b : Int) (a0 : 0 ≤ a) (b0 : 0 ≤ b) (w : World) :
    Calls Try.prog 33 #[.int .i64 o, .int .u64 a, .int .u64 b] w fun e w' => e = .returned (.int .u64 (alV o a b)) ∧ w = w' := by
  have hn := number_any
  have HN := Lib.hid hn
  clear hn
  cases hb : (b == 0)
  all_goals
    go_enter Try.func33, Try.ntmps33
    go_wp2_with (go_at_call 38; refine (HN.out _ _).mono ?_; rintro e w' ⟨rfl, rfl⟩)
    all_goals first
      | (exfalso; simp at hb; omega)
      | (go_ret
         refine ⟨ret_u64 ?_, rfl⟩
         clear HN
         (try simp only [beq_iff_eq, beq_eq_false_iff_ne, ne_eq, decide_eq_true_eq, decide_eq_false_iff_not] at *)
         unfold alV
         (try subst o)
         (try subst b)
         simp_all (config := {decide := true}))
/-- a word of 64 bits -/
def U64 (a : Int) : Prop := 0 ≤ a ∧ a < 18446744073709551616
theorem U64.of_wrap (x : Int) : U64 (IntKind.u64.wrap x) := by unfold U64; rw [u64_wrap]; omega
theorem min_lt (b : Int) (h : b < 64) : min b.toNat 64 = b.toNat := by omega
theorem min_ge (b : Int) (h : 64 ≤ b) : min b.toNat 64 = 64 := by omega
theorem shl_out (a b : Int) (h : 64 ≤ b) : IntKind.u64.wrap (a * 2 ^ min b.toNat 64) = 0 := by
  rw [min_ge b h, u64_wrap, show (2 : Int) ^ 64 = 18446744073709551616 by decide]; omega
theorem shr_out (a b : Int) (ha : U64 a) (h : 64 ≤ b) : a / 2 ^ min b.toNat 64 = 0 := by
  obtain ⟨a0, a1⟩ := ha
  rw [min_ge b h, show (2 : Int) ^ 64 = 18446744073709551616 by decide]; omega
theorem bits_U64 (op : BinOp) (a b : Int) : U64 (bits op .u64 a b) := by
  have h := bits_within op .u64 a b
  have e1 : IntKind.u64.min = 0 := by decide
  have e2 : IntKind.u64.max = 18446744073709551615 := by decide
  rw [e1, e2] at h
  unfold U64; omega
theorem U64.ite {c : Prop} [Decidable c] {x y : Int} (hx : U64 x) (hy : U64 y) : U64 (if c then x else y) := by split <;> assumption
theorem alV_U64 (o a b : Int) (ha : U64 a) : U64 (alV o a b) := by
  have z : U64 0 := by unfold U64; omega
  have z1 : U64 1 := by unfold U64; omega
  have hd : U64 (a / 2 ^ min b.toNat 64) := by
    obtain ⟨a0, a1⟩ := ha
    have hp : (0 : Int) < 2 ^ min b.toNat 64 := Int.pow_pos (by omega)
    have h1 := Int.ediv_le_self (2 ^ min b.toNat 64) a0
    have h2 : 0 ≤ a / 2 ^ min b.toNat 64 := Int.ediv_nonneg a0 (by omega)
    unfold U64; omega
  unfold alV
  exact .ite ha (.ite (.of_wrap _) (.ite (.of_wrap _) (.ite (bits_U64 _ _ _) (.ite (bits_U64 _ _ _) (.ite (bits_U64 _ _ _) (.ite (.of_wrap _) (.ite hd (.ite (.of_wrap _) (.ite (.ite z (.of_wrap _)) (.ite (.ite z1 z) (.ite (.ite z1 z) z)))))))))))
set_option maxRecDepth 100000 in
set_option maxHeartbeats 2000000 in
theorem alu_any (o a b : Int) (h2 : o ≠ 2) (ha : U64 a) (hb : U64 b) (w : World) :
    Calls Try.prog 34 #[.int .i64 o, .int .u64 a, .int .u64 b] w fun e w' => e = .returned (.int .u64 (alV o a b)) ∧ w = w' := by
  have h2' := Lib.hid h2
  have HA := Lib.hid ha
  have a0 := ha.1
  have b0 := hb.1
  clear h2 ha hb
  by_cases hb : 0 < b
  all_goals
    go_enter Try.func34, Try.ntmps34
    go_wp2
    all_goals first
      | (exfalso; simp at hb; omega)
      | (go_ret
         refine ⟨ret_u64 ?_, rfl⟩
         have g2 := h2'.out
         have gA := HA.out
         clear h2' HA
         (try simp only [beq_iff_eq, beq_eq_false_iff_ne, ne_eq, decide_eq_true_eq, decide_eq_false_iff_not] at *)
         first
           | (subst o; simp [alV]; done)
           | (subst o; simp [alV, shl_out _ _ ‹64 ≤ b›]; done)
           | (subst o; simp [alV, shr_out _ _ gA ‹64 ≤ b›]; done)
           | (subst o; simp [alV, min_lt _ ‹b < 64›]; done)
           | (subst o; simp [alV, *]; omega)
           | (unfold alV; simp [*]; done))
end Go.Proofs.Ytaghblcboimbpaa

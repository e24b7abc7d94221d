/-
  gcode.Size, within, Ends, Plain, Super, Right: A CONTRACT EACH.
-/
import Derived.Test.YtmgjojgjonighaaDoorNum
import Derived.Test.YtmgjojgjonighaaDoorProg
import Derived.WalkKit
import Derived.BigGuard
import Derived.Below
import Derived.Outline
namespace Go.Proofs.YtmgjojgjonighaaDoor
open Go.RowKit
set_option linter.unusedSimpArgs false
set_option linter.unusedVariables false

theorem ret_i64 {a b : Int} (h : a = b) : Ending.returned (.int .i64 a) = .returned (.int .i64 b) := by rw [h]
theorem ret_bool {a b : Bool} (h : a = b) : Ending.returned (.bool a) = .returned (.bool b) := by rw [h]
/-- the length of an operation's instruction -/
def szV (op : Int) : Int :=
  if op = 2 then 5 else if op = 1 ∨ (32 ≤ op ∧ op ≤ 38) ∨ op = 66 ∨ op = 67 then 2
  else if (0 ≤ op ∧ op ≤ 8) ∨ (16 ≤ op ∧ op ≤ 25) ∨ op = 39 ∨ op = 40 ∨ (48 ≤ op ∧ op ≤ 53) ∨ (64 ≤ op ∧ op ≤ 69) then 1 else 0

theorem szV_cases (op : Int) : szV op = 0 ∨ szV op = 1 ∨ szV op = 2 ∨ szV op = 5 := by
  unfold szV; repeat' split
  all_goals simp
/-- a right instruction -/
def okV (op n : Int) : Bool := decide (szV op = 5 ∨ (szV op = 2 ∧ n ≤ 255) ∨ (szV op = 1 ∧ n = 0))
def wiV (op a b : Int) : Bool := decide (a ≤ op ∧ op ≤ b)
def enV (op : Int) : Bool := wiV op 32 40 || wiV op 64 69
def plV (op : Int) : Bool := !(decide (op = 24)) && (wiV op 0 8 || wiV op 16 25 || wiV op 32 40)
def suV (op : Int) : Bool := wiV op 65 69

set_option maxRecDepth 100000 in
set_option maxHeartbeats 1000000 in
theorem size_any (op : Int) (w : World) :
    Calls Tryd.prog 15 #[.int .i64 op] w fun e w' => e = .returned (.int .i64 (szV op)) ∧ w = w' := by
  go_enter Tryd.func15, Tryd.ntmps15
  go_wp2
  all_goals (go_ret; refine ⟨ret_i64 ?_, rfl⟩)
  all_goals (simp only [beq_iff_eq, beq_eq_false_iff_ne, ne_eq] at *; unfold szV; (repeat' split) <;> omega)
theorem within_any (op a b : Int) (w : World) :
    Calls Tryd.prog 39 #[.int .i64 op, .int .i64 a, .int .i64 b] w fun e w' => e = .returned (.bool (wiV op a b)) ∧ w = w' := by
  by_cases h1 : a ≤ op
  · go_enter Tryd.func39, Tryd.ntmps39
    go_wp2
    go_ret
    exact ⟨ret_bool (by simp [wiV, h1]), rfl⟩
  · have h2 : decide (a ≤ op) = false := by simpa using h1
    go_enter Tryd.func39, Tryd.ntmps39
    go_wp2
    go_ret
    exact ⟨ret_bool (by simp [wiV]; omega), rfl⟩
theorem ends_any (op : Int) (w : World) :
    Calls Tryd.prog 21 #[.int .i64 op] w fun e w' => e = .returned (.bool (enV op)) ∧ w = w' := by
  unfold enV
  cases h1 : wiV op 32 40 <;> cases h2 : wiV op 64 69
  all_goals
    go_enter Tryd.func21, Tryd.ntmps21
    go_wp2_with (go_at_call 39; refine (within_any _ _ _ _).mono ?_; rintro e w' ⟨rfl, rfl⟩)
    go_ret
    exact ⟨ret_bool (by simp), rfl⟩
theorem super_any (op : Int) (w : World) :
    Calls Tryd.prog 20 #[.int .i64 op] w fun e w' => e = .returned (.bool (suV op)) ∧ w = w' := by
  go_enter Tryd.func20, Tryd.ntmps20
  go_wp2_with (go_at_call 39; refine (within_any _ _ _ _).mono ?_; rintro e w' ⟨rfl, rfl⟩)
  go_ret
  exact ⟨ret_bool (by simp [suV]), rfl⟩
theorem plain_any (op : Int) (w : World) :
    Calls Tryd.prog 22 #[.int .i64 op] w fun e w' => e = .returned (.bool (plV op)) ∧ w = w' := by
  by_cases h0 : op = 24
  · subst h0
    go_enter Tryd.func22, Tryd.ntmps22
    go_wp2_with fail
    go_ret
    exact ⟨ret_bool (by simp [plV]), rfl⟩
  · have h0' : (op == 24) = false := by simpa using h0
    have e : plV op = (wiV op 0 8 || wiV op 16 25 || wiV op 32 40) := by simp [plV, h0]
    rw [e]; clear e h0
    cases h1 : wiV op 0 8 <;> cases h2 : wiV op 16 25 <;> cases h3 : wiV op 32 40
    all_goals
      go_enter Tryd.func22, Tryd.ntmps22
      go_wp2_with (go_at_call 39; refine (within_any _ _ _ _).mono ?_; rintro e w' ⟨rfl, rfl⟩)
      go_ret
      exact ⟨ret_bool (by simp), rfl⟩
theorem right_any (op n : Int) (n0 : 0 ≤ n) (w : World) :
    Calls Tryd.prog 23 #[.agg #[.int .i64 op, .int .u32 n]] w fun e w' => e = .returned (.bool (okV op n)) ∧ Below w.heap.size w w' := by
  rcases szV_cases op with h | h | h | h
  all_goals
    go_enter Tryd.func23, Tryd.ntmps23
    go_wp2_with (go_at_call 15; refine (size_any _ _).mono ?_; rintro e w' ⟨rfl, rfl⟩)
    go_ret
    refine ⟨ret_bool ?_, (Below.refl _ _).alloc (Nat.le_refl _) _⟩
    simp [okV, h]
    try (rw [Bool.eq_iff_iff]; simp)
/-! ### the document's own -/
set_option maxRecDepth 100000 in
set_option maxHeartbeats 1000000 in
theorem rsize_any (op : Int) (w : World) :
    Calls Tryd.prog 29 #[.int .i64 op] w fun e w' => e = .returned (.int .i64 (szV op)) ∧ w = w' := by
  go_enter Tryd.func29, Tryd.ntmps29
  go_wp2
  all_goals (go_ret; refine ⟨ret_i64 ?_, rfl⟩)
  all_goals (simp only [beq_iff_eq, beq_eq_false_iff_ne, ne_eq, decide_eq_true_eq, decide_eq_false_iff_not] at *; unfold szV; (repeat' split) <;> omega)
end Go.Proofs.YtmgjojgjonighaaDoor

/-
  WHAT IS MADE OF AN INSTRUCTION: numbers alone.
-/
import Derived.Test.YtaghblcboimbpaaHc2
import Derived.Test.YtaghblcboimbpaaHb
namespace Go.Proofs.Ytaghblcboimbpaa
open Go.RowKit
set_option linter.unusedSimpArgs false
set_option linter.unusedVariables false

theorem below_three (w : World) (x y z : Obj) : Below w.heap.size w (((w.alloc x).alloc y).alloc z) := (below_two w x y).alloc (by simp; omega) _
/-- what is made of an instruction -/
def mdI (o d a b n : Int) : Hi := ⟨wdV o 0 19, kp (uD (wdV o 0 19)) (wdV d 0 15), kp (uA (wdV o 0 19)) (wdV a 0 15), kp (uB (wdV o 0 19)) (wdV b 0 15), kp (uN (wdV o 0 19)) n⟩
theorem mdI_ok (o d a b n : Int) (n0 : 0 ≤ n) (n1 : n < 4294967296) : (mdI o d a b n).Ok := by
  have h0 := wdV_bd o 0 19 (by omega)
  have h1 := wdV_bd d 0 15 (by omega)
  have h2 := wdV_bd a 0 15 (by omega)
  have h3 := wdV_bd b 0 15 (by omega)
  unfold mdI Hi.Ok Hi.ok Hi.fit okH
  simp only
  generalize wdV o 0 19 = x at *
  generalize wdV d 0 15 = y1 at *
  generalize wdV a 0 15 = y2 at *
  generalize wdV b 0 15 = y3 at *
  have hx : isO x = true := by simp [isO]; omega
  rw [hx]
  have key : ∀ (c : Bool) (y : Int), 0 ≤ y → y ≤ 15 → ((c || kp c y == 0) = true ∧ rg (kp c y) = true) := by
    intro c y y0 y1
    cases c
    · simp [kp, rg]
    · simp [kp, rg]; omega
  obtain ⟨k1, k2⟩ := key (uD x) y1 h1.1 h1.2
  obtain ⟨k3, k4⟩ := key (uA x) y2 h2.1 h2.2
  obtain ⟨k5, k6⟩ := key (uB x) y3 h3.1 h3.2
  have k7 : (uN x || kp (uN x) n == 0) = true := by cases uN x <;> simp [kp]
  rw [k1, k2, k3, k4, k5, k6, k7]
  refine ⟨rfl, ?_⟩
  cases uN x <;> simp [kp] <;> omega
theorem fd_bits (x : Int) (h0 : 0 ≤ x) (h1 : x ≤ 19) : (bits .and .i64 (fdV x) 1 != 0) = uD x ∧ (bits .and .i64 (fdV x) 2 != 0) = uA x ∧ (bits .and .i64 (fdV x) 4 != 0) = uB x ∧ (bits .and .i64 (fdV x) 8 != 0) = uN x := by
  have h : ∀ k : Fin 20, (bits .and .i64 (fdV (k.val : Int)) 1 != 0) = uD (k.val : Int) ∧ (bits .and .i64 (fdV (k.val : Int)) 2 != 0) = uA (k.val : Int) ∧ (bits .and .i64 (fdV (k.val : Int)) 4 != 0) = uB (k.val : Int) ∧ (bits .and .i64 (fdV (k.val : Int)) 8 != 0) = uN (k.val : Int) := by decide
  have := h ⟨x.toNat, by omega⟩
  have e : ((x.toNat : Nat) : Int) = x := by omega
  simp only [e] at this
  exact this
theorem fd_kinds (x : Int) (h0 : 0 ≤ x) (h1 : x ≤ 19) :
    (uD x = false ∧ uA x = false ∧ uB x = false ∧ uN x = false) ∨ (uD x = true ∧ uA x = false ∧ uB x = false ∧ uN x = true) ∨ (uD x = true ∧ uA x = true ∧ uB x = false ∧ uN x = false) ∨ (uD x = true ∧ uA x = true ∧ uB x = true ∧ uN x = false)
      ∨ (uD x = true ∧ uA x = true ∧ uB x = false ∧ uN x = true) ∨ (uD x = false ∧ uA x = true ∧ uB x = true ∧ uN x = true) ∨ (uD x = false ∧ uA x = true ∧ uB x = false ∧ uN x = true) ∨ (uD x = false ∧ uA x = false ∧ uB x = false ∧ uN x = true) := by
  have h : ∀ k : Fin 20, (uD (k.val : Int) = false ∧ uA (k.val : Int) = false ∧ uB (k.val : Int) = false ∧ uN (k.val : Int) = false) ∨ (uD (k.val : Int) = true ∧ uA (k.val : Int) = false ∧ uB (k.val : Int) = false ∧ uN (k.val : Int) = true) ∨ (uD (k.val : Int) = true ∧ uA (k.val : Int) = true ∧ uB (k.val : Int) = false ∧ uN (k.val : Int) = false) ∨ (uD (k.val : Int) = true ∧ uA (k.val : Int) = true ∧ uB (k.val : Int) = true ∧ uN (k.val : Int) = false)
      ∨ (uD (k.val : Int) = true ∧ uA (k.val : Int) = true ∧ uB (k.val : Int) = false ∧ uN (k.val : Int) = true) ∨ (uD (k.val : Int) = false ∧ uA (k.val : Int) = true ∧ uB (k.val : Int) = true ∧ uN (k.val : Int) = true) ∨ (uD (k.val : Int) = false ∧ uA (k.val : Int) = true ∧ uB (k.val : Int) = false ∧ uN (k.val : Int) = true) ∨ (uD (k.val : Int) = false ∧ uA (k.val : Int) = false ∧ uB (k.val : Int) = false ∧ uN (k.val : Int) = true) := by decide
  have := h ⟨x.toNat, by omega⟩
  have e : ((x.toNat : Nat) : Int) = x := by omega
  simp only [e] at this
  exact this
end Go.Proofs.Ytaghblcboimbpaa

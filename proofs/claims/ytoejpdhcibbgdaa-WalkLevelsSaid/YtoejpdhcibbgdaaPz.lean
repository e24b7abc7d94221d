/-
  EMPTY POOLS, FRAMES, ROWS OF BOOLS: the zero values of great types, and what is made of them; New of both pools.
-/
import Derived.Test.YtoejpdhcibbgdaaPs
import Derived.Deep.WholeRow
namespace Go.Proofs.Ytoejpdhcibbgdaa
open Go.RowKit
set_option linter.unusedSimpArgs false
set_option linter.unusedVariables false

/-- the same plain cell? -/
def sameC : Value → Value → Bool
  | .bool a, .bool b => a == b
  | .int k a, .int k' b => decide (k = k') && a == b
  | _, _ => false
theorem sameC_eq : ∀ {a b : Value}, sameC a b = true → a = b
  | .bool a, .bool b, h => by simp [sameC] at h; rw [h]
  | .int k a, .int k' b, h => by simp [sameC] at h; rw [h.1, h.2]
  | .bool _, .int .., h => by simp [sameC] at h
  | .int .., .bool _, h => by simp [sameC] at h
def eat : List Value → List Value → Option (List Value)
  | [], l => some l
  | _ :: _, [] => none
  | p :: ps, v :: l => if sameC p v then eat ps l else none
theorem eat_eq : ∀ {p l r : List Value}, eat p l = some r → l = p ++ r
  | [], l, r, h => by simp [eat] at h; simpa using h
  | _ :: _, [], r, h => by simp [eat] at h
  | p :: ps, v :: l, r, h => by
    simp only [eat] at h
    split at h
    · rename_i hs
      rw [sameC_eq hs, eat_eq h]; rfl
    · cases h
def eats : Nat → List Value → List Value → Option (List Value)
  | 0, _, l => some l
  | n + 1, p, l => match eat p l with
    | some r => eats n p r
    | none => none
def reps : Nat → List Value → List Value
  | 0, _ => []
  | n + 1, p => p ++ reps n p
theorem eats_eq : ∀ {n : Nat} {p l r : List Value}, eats n p l = some r → l = reps n p ++ r
  | 0, p, l, r, h => by simp [eats] at h; simpa [reps] using h
  | n + 1, p, l, r, h => by
    simp only [eats] at h
    split at h
    · rename_i m hm
      rw [eat_eq hm, eats_eq h]; simp [reps]
    · cases h
theorem reps_len (n : Nat) (p : List Value) : (reps n p).length = n * p.length := by
  induction n with
  | zero => simp [reps]
  | succ n ih => simp [reps, ih, Nat.succ_mul]; omega
theorem reps_get (p : List Value) (j : Nat) (hj : j < p.length) : ∀ (n i : Nat), i < n → (reps n p)[i * p.length + j]? = p[j]?
  | n + 1, 0, _ => by rw [reps, Nat.zero_mul, Nat.zero_add, List.getElem?_append_left hj]
  | n + 1, i + 1, h => by
    rw [reps, List.getElem?_append_right (by rw [Nat.succ_mul]; omega)]
    have := reps_get p j hj n i (by omega)
    rw [← this]; congr 1; rw [Nat.succ_mul]; omega

/-- a type's zero value's cells -/
noncomputable def zc (t : TypeId) : Array Value := (((Try.prog.info? t).bind (·.zero)).getD (.agg #[])).cells
def frZ : List Value := .bool false :: .int .i64 0 :: reps 64 [.int .u8 0]
theorem reps_one (n : Nat) (x : Value) : reps n [x] = List.replicate n x := by
  induction n with
  | zero => rfl
  | succ n ih => rw [reps, ih]; rfl
theorem frZ_eq : frZ = frC (-1) := by
  unfold frZ frC
  rw [reps_one]; rfl

theorem zeroP : (Try.prog.info? 88).map (fun i => (i.zero, i.size)) = some (some (.agg (zc 88)), 16904) := by kernel_rfl
theorem zeroF : (Try.prog.info? 82).map (fun i => (i.zero, i.size)) = some (some (.agg (zc 82)), 66) := by kernel_rfl
theorem zeroN : (Try.prog.info? 116).map (fun i => (i.zero, i.size)) = some (some (.agg (zc 116)), 256) := by kernel_rfl
theorem zeroB : (Try.prog.info? 80).map (fun i => (i.zero, i.size)) = some (some (.agg (zc 80)), 64) := by kernel_rfl
set_option maxRecDepth 1000000 in
theorem zcP : (zc 88).toList = reps 256 frZ ++ (reps 4 [.bool false, .int .i64 0] ++ []) := by
  have h : (eats 256 frZ (zc 88).toList).bind (eats 4 [.bool false, .int .i64 0]) = some [] := by kernel_rfl
  cases h1 : eats 256 frZ (zc 88).toList with
  | none => rw [h1] at h; cases h
  | some r =>
    rw [h1] at h
    rw [eats_eq h1, eats_eq h]
theorem zcF : (zc 82).toList = frZ := by
  have h : eats 1 frZ (zc 82).toList = some [] := by kernel_rfl
  rw [eats_eq h]; simp [reps]
theorem zcN : (zc 116).toList = reps 256 [.bool false] := by
  have h : eats 256 [.bool false] (zc 116).toList = some [] := by kernel_rfl
  rw [eats_eq h]; simp
theorem zcB : (zc 80).toList = reps 64 [.int .u8 0] := by
  have h : eats 64 [.int .u8 0] (zc 80).toList = some [] := by kernel_rfl
  rw [eats_eq h]; simp
end Go.Proofs.Ytoejpdhcibbgdaa

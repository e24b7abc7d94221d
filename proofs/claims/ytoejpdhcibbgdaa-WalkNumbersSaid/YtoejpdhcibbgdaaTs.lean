/-
  nested: isPage, isMapped, Pages, Frame, Guarded, mark, Guard, Unguard: A CONTRACT EACH.
-/
import Derived.Test.YtoejpdhcibbgdaaTm
import Derived.Test.YtoejpdhcibbgdaaPs
namespace Go.Proofs.Ytoejpdhcibbgdaa
open Go.RowKit
set_option linter.unusedSimpArgs false
set_option linter.unusedVariables false

/-- is there such a page? is it mapped? -/
def Ta.pB (T : Ta) (k : Int) : Bool := decide (0 ≤ k ∧ k < T.n)
def Ta.mB (T : Ta) (k : Int) : Bool := T.pB k && neB (T.fr k.toNat)
/-- what Frame tells, what Guarded tells -/
def Ta.frV (T : Ta) (k : Int) : Int := if T.mB k = true then T.fr k.toNat else 0
def Ta.gdV (T : Ta) (k : Int) : Bool := T.mB k && T.gd k.toNat
theorem pB_true {T : Ta} {k : Int} (h : T.pB k = true) : ∃ i : Nat, k = i ∧ i < T.n := by
  simp [Ta.pB] at h
  obtain ⟨i, rfl⟩ := Int.eq_ofNat_of_zero_le h.1
  exact ⟨i, rfl, by omega⟩
theorem mB_true {T : Ta} {k : Int} (h : T.mB k = true) : ∃ i : Nat, k = i ∧ i < T.n ∧ 0 ≤ T.fr i := by
  simp only [Ta.mB, Bool.and_eq_true] at h
  obtain ⟨i, rfl, hi⟩ := pB_true h.1
  exact ⟨i, rfl, hi, by simpa [neB] using h.2⟩
theorem pB_nat {T : Ta} {i : Nat} (h : i < T.n) : T.pB (i : Int) = true := by simp [Ta.pB]; omega
theorem mB_nat {T : Ta} {i : Nat} (h : i < T.n) : T.mB (i : Int) = neB (T.fr i) := by
  unfold Ta.mB; rw [pB_nat h, Bool.true_and, Int.toNat_natCast]
section
variable {g h r : Nat} {T : Ta}
set_option maxRecDepth 100000 in
theorem isPage_any (k : Int) (w : World) (hT : IsT w g h r T) :
    Calls Try.prog 59 #[.pointer (some ⟨h, 0, none⟩), .int .i64 k] w fun e w' => e = .returned (.bool (T.pB k)) ∧ w = w' := by
  have hc := hT.c2
  have hn := hT.good.n1
  have hv : T.pB k = (decide (0 ≤ k) && decide (k < T.n)) := by simp [Ta.pB, Bool.decide_and]
  rw [hv]
  generalize T.n = n at *
  clear hT hv
  by_cases h1 : 0 ≤ k
  · go_enter Try.func59, Try.ntmps59
    go_wp2
    go_ret
    exact ⟨ret_bool (by simp [h1]), rfl⟩
  · have h2 : decide (0 ≤ k) = false := by simpa using h1
    go_enter Try.func59, Try.ntmps59
    go_wp2
    go_ret
    exact ⟨ret_bool (by simp [h2]), rfl⟩
set_option maxRecDepth 100000 in
theorem isMapped_any (k : Int) (w : World) (hT : IsT w g h r T) :
    Calls Try.prog 53 #[.pointer (some ⟨h, 0, none⟩), .int .i64 k] w fun e w' => e = .returned (.bool (T.mB k)) ∧ w = w' := by
  have hh := isPage_any k w hT
  unfold Ta.mB
  cases hb : T.pB k
  · rw [hb] at hh
    have HH := Lib.hid hh
    clear hh hb hT
    simp only [Bool.false_and]
    go_enter Try.func53, Try.ntmps53
    go_wp2_with (go_at_call 59; refine HH.out.mono ?_; rintro e w' ⟨rfl, rfl⟩)
    go_ret
    exact ⟨rfl, rfl⟩
  · rw [hb] at hh
    obtain ⟨i, rfl, hi⟩ := pB_true hb
    have hc := hT.c2
    have hm := hT.mp i hi
    have hn := hT.good.n1
    have HH := Lib.hid hh
    simp only [Bool.true_and, Int.toNat_natCast]
    generalize T.n = n at *
    generalize neB (T.fr i) = x at *
    clear hh hb hT
    have hi0 : (0 : Int) ≤ (i : Int) := by omega
    have hi1 : (i : Int) < (n : Int) := by omega
    go_enter Try.func53, Try.ntmps53
    go_wp2_with (go_at_call 59; refine HH.out.mono ?_; rintro e w' ⟨rfl, rfl⟩)
    go_ret
    exact ⟨rfl, rfl⟩
theorem pages_any (w : World) (hT : IsT w g h r T) :
    Calls Try.prog 40 #[.pointer (some ⟨h, 0, none⟩)] w fun e w' => e = .returned (.int .i64 T.n) ∧ w = w' := by
  have hc := hT.c2
  have hn := hT.good.n1
  generalize T.n = n at *
  clear hT
  go_enter Try.func40, Try.ntmps40
  go_wp2
  go_ret
  exact ⟨rfl, rfl⟩
set_option maxRecDepth 100000 in
theorem frame_any (k : Int) (w : World) (hT : IsT w g h r T) :
    Calls Try.prog 45 #[.pointer (some ⟨h, 0, none⟩), .int .i64 k] w fun e w' => e = .returned (.tuple #[.int .i64 (T.frV k), .bool (T.mB k)]) ∧ w = w' := by
  have hh := isMapped_any k w hT
  unfold Ta.frV
  cases hb : T.mB k
  · rw [hb] at hh
    have HH := Lib.hid hh
    clear hh hb hT
    simp only [Bool.false_eq_true, if_false]
    go_enter Try.func45, Try.ntmps45
    go_wp2_with (go_at_call 53; refine HH.out.mono ?_; rintro e w' ⟨rfl, rfl⟩)
    go_ret2
    exact ⟨rfl, rfl⟩
  · rw [hb] at hh
    obtain ⟨i, rfl, hi, h0⟩ := mB_true hb
    have hc := hT.c2
    have hm := hT.fm i hi
    rw [show pos (T.fr i) = T.fr i by unfold pos; rw [if_pos h0]] at hm
    have hn := hT.good.n1
    have HH := Lib.hid hh
    simp only [if_true, Int.toNat_natCast]
    generalize T.n = n at *
    generalize T.fr i = x at *
    clear hh hb hT h0
    have hi0 : (0 : Int) ≤ (i : Int) := by omega
    have hi1 : (i : Int) < (n : Int) := by omega
    go_enter Try.func45, Try.ntmps45
    go_wp2_with (go_at_call 53; refine HH.out.mono ?_; rintro e w' ⟨rfl, rfl⟩)
    go_ret2
    exact ⟨rfl, rfl⟩
/-- what mark leaves -/
def Ta.markS (T : Ta) (k : Int) (b : Bool) : Ta := if T.mB k = true then T.mark k.toNat b else T
def Marked (T : Ta) (g h r : Nat) (k : Int) (b : Bool) (w : World) (e : Ending) (w' : World) : Prop :=
  e = .returned (.bool (T.mB k)) ∧ IsT w' g h r (T.markS k b) ∧ Turn r r w w'
end
end Go.Proofs.Ytoejpdhcibbgdaa

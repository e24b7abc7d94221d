/-
  frames: isOwner, isByte, isHeld, holds, Owner, Promised, Byte, Put: A CONTRACT EACH.
-/
import Derived.Test.YtoejpdhcibbgdaaPl
import Derived.BigGuard
import Derived.Below
import Derived.Outline
namespace Go.Proofs.Ytoejpdhcibbgdaa
open Go.RowKit
set_option linter.unusedSimpArgs false
set_option linter.unusedVariables false

theorem ret_i64 {a b : Int} (h : a = b) : Ending.returned (.int .i64 a) = .returned (.int .i64 b) := by rw [h]
theorem ret_bool {a b : Bool} (h : a = b) : Ending.returned (.bool a) = .returned (.bool b) := by rw [h]
/-- is there such an owner, such a byte? -/
def oB (o : Int) : Bool := decide (0 ≤ o ∧ o < 4)
def aB (a : Int) : Bool := decide (0 ≤ a ∧ a < 64)
def fB (f : Int) : Bool := decide (0 ≤ f ∧ f < 256)
/-- is frame f held? by o? -/
def Po.hB (S : Po) (f : Int) : Bool := fB f && neB (S.own f.toNat)
def Po.isB (S : Po) (o f : Int) : Bool := S.hB f && (S.own f.toNat == o)

theorem isOwner_any (o : Int) (w : World) :
    Calls Try.prog 49 #[.int .i64 o] w fun e w' => e = .returned (.bool (oB o)) ∧ w = w' := by
  by_cases h1 : 0 ≤ o
  · go_enter Try.func49, Try.ntmps49
    go_wp2
    go_ret
    exact ⟨ret_bool (by simp [oB, h1]), rfl⟩
  · have h2 : decide (0 ≤ o) = false := by simpa using h1
    go_enter Try.func49, Try.ntmps49
    go_wp2
    go_ret
    exact ⟨ret_bool (by simp [oB]; omega), rfl⟩
theorem isByte_any (o : Int) (w : World) :
    Calls Try.prog 55 #[.int .i64 o] w fun e w' => e = .returned (.bool (aB o)) ∧ w = w' := by
  by_cases h1 : 0 ≤ o
  · go_enter Try.func55, Try.ntmps55
    go_wp2
    go_ret
    exact ⟨ret_bool (by simp [aB, h1]), rfl⟩
  · have h2 : decide (0 ≤ o) = false := by simpa using h1
    go_enter Try.func55, Try.ntmps55
    go_wp2
    go_ret
    exact ⟨ret_bool (by simp [aB]; omega), rfl⟩
section
variable {g : Nat} {S : Po}
theorem isHeld_any (f : Int) (w : World) (hP : IsP w g S) :
    Calls Try.prog 54 #[.pointer (some ⟨g, 0, none⟩), .int .i64 f] w fun e w' => e = .returned (.bool (S.hB f)) ∧ w = w' := by
  unfold Po.hB
  by_cases h : 0 ≤ f ∧ f < 256
  · obtain ⟨k, rfl⟩ := Int.eq_ofNat_of_zero_le h.1
    have h1 : (k : Int) < 256 := h.2
    have hc := hP.hd k (by omega)
    have e : fB (k : Int) = true := by simp [fB]; omega
    rw [e, Int.toNat_natCast, Bool.true_and]
    generalize neB (S.own k) = b at *
    clear hP e
    go_enter Try.func54, Try.ntmps54
    go_wp2
    go_ret
    exact ⟨rfl, rfl⟩
  · have e : fB f = false := by simp [fB]; omega
    rw [e, Bool.false_and]
    clear hP e
    by_cases h1 : 0 ≤ f
    · have h2 : decide (f < 256) = false := by simp; omega
      go_enter Try.func54, Try.ntmps54
      go_wp2
      go_ret
      exact ⟨rfl, rfl⟩
    · have h2 : decide (0 ≤ f) = false := by simpa using h1
      go_enter Try.func54, Try.ntmps54
      go_wp2
      go_ret
      exact ⟨rfl, rfl⟩
theorem hB_true {f : Int} (h : S.hB f = true) : ∃ k : Nat, f = k ∧ k < 256 ∧ 0 ≤ S.own k := by
  simp [Po.hB, fB, neB] at h
  obtain ⟨k, rfl⟩ := Int.eq_ofNat_of_zero_le h.1.1
  exact ⟨k, rfl, by omega, by simpa using h.2⟩
theorem hB_nat {k : Nat} (h : k < 256) : S.hB (k : Int) = neB (S.own k) := by
  simp [Po.hB, fB]; omega
theorem holds_any (o f : Int) (w : World) (hP : IsP w g S) :
    Calls Try.prog 64 #[.pointer (some ⟨g, 0, none⟩), .int .i64 o, .int .i64 f] w fun e w' => e = .returned (.bool (S.isB o f)) ∧ w = w' := by
  have hh := isHeld_any f w hP
  unfold Po.isB
  cases hb : S.hB f
  · rw [hb] at hh
    have HH := Lib.hid hh
    clear hh hb hP
    simp only [Bool.false_and]
    go_enter Try.func64, Try.ntmps64
    go_wp2_with (go_at_call 54; refine HH.out.mono ?_; rintro e w' ⟨rfl, rfl⟩)
    go_ret
    exact ⟨rfl, rfl⟩
  · rw [hb] at hh
    obtain ⟨k, rfl, hk, h0⟩ := hB_true hb
    have hc := hP.ow k hk
    have e : pos (S.own k) = S.own k := by unfold pos; rw [if_pos h0]
    rw [e] at hc
    have HH := Lib.hid hh
    simp only [Bool.true_and, Int.toNat_natCast]
    generalize S.own k = x at *
    clear hh hb hP e
    go_enter Try.func64, Try.ntmps64
    go_wp2_with (go_at_call 54; refine HH.out.mono ?_; rintro e w' ⟨rfl, rfl⟩)
    go_ret
    exact ⟨rfl, rfl⟩
/-- what Owner tells -/
def Po.who (S : Po) (f : Int) : Int := if S.hB f = true then S.own f.toNat else 0
/-- what Promised tells -/
def Po.got (S : Po) (o : Int) : Int := if oB o = true then pos (S.prom o.toNat) else 0
theorem oB_true {o : Int} (h : oB o = true) : ∃ k : Nat, o = k ∧ k < 4 := by
  simp [oB] at h
  obtain ⟨k, rfl⟩ := Int.eq_ofNat_of_zero_le h.1
  exact ⟨k, rfl, by omega⟩
/-- is there such a byte of a frame that is held? what is it? -/
def Po.bB (S : Po) (f a : Int) : Bool := S.hB f && aB a
def Po.bt (S : Po) (f a : Int) : Int := if S.bB f a = true then S.byte f.toNat a.toNat else 0
theorem bB_true {f a : Int} (h : S.bB f a = true) : ∃ k i : Nat, f = k ∧ a = i ∧ k < 256 ∧ i < 64 ∧ 0 ≤ S.own k := by
  simp only [Po.bB, Bool.and_eq_true] at h
  obtain ⟨k, rfl, hk, h0⟩ := hB_true h.1
  have h2 := h.2
  simp [aB] at h2
  obtain ⟨i, rfl⟩ := Int.eq_ofNat_of_zero_le h2.1
  exact ⟨k, i, rfl, rfl, hk, by omega, h0⟩
theorem byte_any (f a : Int) (w : World) (hP : IsP w g S) :
    Calls Try.prog 47 #[.pointer (some ⟨g, 0, none⟩), .int .i64 f, .int .i64 a] w fun e w' => e = .returned (.tuple #[.int .u8 (S.bt f a), .bool (S.bB f a)]) ∧ w = w' := by
  have hh := isHeld_any f w hP
  have ha := isByte_any a
  unfold Po.bt
  cases hb : S.bB f a
  · simp only [Bool.false_eq_true, if_false]
    cases h1 : S.hB f
    · rw [h1] at hh
      have HH := Lib.hid hh
      clear hh h1 hP ha hb
      go_enter Try.func47, Try.ntmps47
      go_wp2_with (go_at_call 54; refine HH.out.mono ?_; rintro e w' ⟨rfl, rfl⟩)
      go_ret2
      exact ⟨rfl, rfl⟩
    · have h2 : aB a = false := by simpa [Po.bB, h1] using hb
      rw [h1] at hh
      rw [h2] at ha
      have HH := Lib.hid hh
      have HA := Lib.hid ha
      clear hh h1 hP ha hb h2
      go_enter Try.func47, Try.ntmps47
      go_wp2_with (first | (go_at_call 54; refine HH.out.mono ?_; rintro e w' ⟨rfl, rfl⟩) | (go_at_call 55; refine (HA.out _).mono ?_; rintro e w' ⟨rfl, rfl⟩))
      go_ret2
      exact ⟨rfl, rfl⟩
  · obtain ⟨h1, h2⟩ : S.hB f = true ∧ aB a = true := by simpa [Po.bB] using hb
    obtain ⟨k, i, rfl, rfl, hk, hi, h0⟩ := bB_true hb
    rw [h1] at hh
    rw [h2] at ha
    have hc := hP.bt k hk i hi
    have HH := Lib.hid hh
    have HA := Lib.hid ha
    simp only [if_true, Int.toNat_natCast]
    generalize S.byte k i = x at *
    clear hh h1 hP ha hb h2 h0
    go_enter Try.func47, Try.ntmps47
    go_wp2_with (first | (go_at_call 54; refine HH.out.mono ?_; rintro e w' ⟨rfl, rfl⟩) | (go_at_call 55; refine (HA.out _).mono ?_; rintro e w' ⟨rfl, rfl⟩))
    go_ret2
    exact ⟨rfl, rfl⟩
theorem put_no (f a x : Int) (w : World) (hP : IsP w g S) (hb : S.bB f a = false) :
    Calls Try.prog 58 #[.pointer (some ⟨g, 0, none⟩), .int .i64 f, .int .i64 a, .int .u8 x] w fun e w' => e = .returned (.bool false) ∧ w = w' := by
  have hh := isHeld_any f w hP
  have ha := isByte_any a
  cases h1 : S.hB f
  · rw [h1] at hh
    have HH := Lib.hid hh
    clear hh h1 hP ha hb
    go_enter Try.func58, Try.ntmps58
    go_wp2_with (go_at_call 54; refine HH.out.mono ?_; rintro e w' ⟨rfl, rfl⟩)
    go_ret
    exact ⟨rfl, rfl⟩
  · have h2 : aB a = false := by simpa [Po.bB, h1] using hb
    rw [h1] at hh
    rw [h2] at ha
    have HH := Lib.hid hh
    have HA := Lib.hid ha
    clear hh h1 hP ha hb h2
    go_enter Try.func58, Try.ntmps58
    go_wp2_with (first | (go_at_call 54; refine HH.out.mono ?_; rintro e w' ⟨rfl, rfl⟩) | (go_at_call 55; refine (HA.out _).mono ?_; rintro e w' ⟨rfl, rfl⟩))
    go_ret
    exact ⟨rfl, rfl⟩
def Po.put (S : Po) (f a : Nat) (x : Int) : Po := { S with byte := upd S.byte f (upd (S.byte f) a x) }
theorem put_any (f a x : Int) (hx : 0 ≤ x ∧ x < 256) (w : World) (hP : IsP w g S) (hb : S.bB f a = true) :
    Calls Try.prog 58 #[.pointer (some ⟨g, 0, none⟩), .int .i64 f, .int .i64 a, .int .u8 x] w fun e w' => e = .returned (.bool true) ∧ IsP w' g (S.put f.toNat a.toNat x) ∧ Turn g g w w' := by
  have hh := isHeld_any f w hP
  have ha := isByte_any a
  obtain ⟨h1, h2⟩ : S.hB f = true ∧ aB a = true := by simpa [Po.bB] using hb
  obtain ⟨k, i, rfl, rfl, hk, hi, h0⟩ := bB_true hb
  rw [h1] at hh
  rw [h2] at ha
  have hc := hP.bt k hk i hi
  have hf := hP.fr (k * 66 + 2 + i)
  have HH := Lib.hid hh
  have HA := Lib.hid ha
  simp only [Int.toNat_natCast]
  have HP := Lib.hid hP
  have HX := Lib.hid hx
  generalize S.byte k i = x0 at *
  clear hh h1 hP ha hb h2 h0 hx
  go_enter Try.func58, Try.ntmps58
  go_wp2_with (first | (go_at_call 54; refine HH.out.mono ?_; rintro e w' ⟨rfl, rfl⟩) | (go_at_call 55; refine (HA.out _).mono ?_; rintro e w' ⟨rfl, rfl⟩))
  go_ret
  exact ⟨rfl, HP.out.setByte k hk i hi x HX.out, (Turn.refl _ _ _).setG _ _⟩
end
end Go.Proofs.Ytoejpdhcibbgdaa

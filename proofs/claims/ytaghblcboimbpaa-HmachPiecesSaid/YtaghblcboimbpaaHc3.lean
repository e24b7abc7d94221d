/-
  hcode.Right: A CONTRACT.
-/
import Derived.Test.YtaghblcboimbpaaHc2
namespace Go.Proofs.Ytaghblcboimbpaa
open Go.RowKit
set_option linter.unusedSimpArgs false
set_option linter.unusedVariables false

/-- what a region keeps of a struct of five fields in block B, made since w -/
def Box5 (B : Nat) (v0 v1 v2 v3 v4 : Value) (w : World) : Prop :=
  w.cell? ⟨B, 0, none⟩ = some v0 ∧ w.cell? ⟨B, 1, none⟩ = some v1 ∧ w.cell? ⟨B, 2, none⟩ = some v2 ∧ w.cell? ⟨B, 3, none⟩ = some v3 ∧ w.cell? ⟨B, 4, none⟩ = some v4
theorem Box5.keep {B : Nat} {v0 v1 v2 v3 v4 : Value} {w w' : World} {C : Nat} (h : Box5 B v0 v1 v2 v3 v4 w) (hb : Below C w w') (hC : B < C) : Box5 B v0 v1 v2 v3 v4 w' :=
  ⟨(hb.cell (p := ⟨B, 0, none⟩) hC).trans h.1, (hb.cell (p := ⟨B, 1, none⟩) hC).trans h.2.1, (hb.cell (p := ⟨B, 2, none⟩) hC).trans h.2.2.1, (hb.cell (p := ⟨B, 3, none⟩) hC).trans h.2.2.2.1, (hb.cell (p := ⟨B, 4, none⟩) hC).trans h.2.2.2.2⟩
theorem Box5.new (w : World) (v0 v1 v2 v3 v4 : Value) (T : TypeId) : Box5 w.heap.size v0 v1 v2 v3 v4 (w.alloc (.cells #[v0, v1, v2, v3, v4] T)) :=
  ⟨by rw [World.cell?_alloc_new]; rfl, by rw [World.cell?_alloc_new]; rfl, by rw [World.cell?_alloc_new]; rfl, by rw [World.cell?_alloc_new]; rfl, by rw [World.cell?_alloc_new]; rfl⟩

theorem kp_eq (c : Bool) (x : Int) : (kp c x == x) = (c || x == 0) := by
  cases c
  · simp [kp]; rw [Bool.eq_iff_iff]; simp; omega
  · simp [kp]
set_option maxRecDepth 100000 in
set_option maxHeartbeats 1000000 in
theorem right_any (o d a b n : Int) (w : World) :
    Calls Try.prog 40 #[hv o d a b n] w fun e w' => e = .returned (.bool (okH o d a b n)) ∧ Below w.heap.size w w' := by
  have hu := used_any o d a b n
  have HU := Lib.hid hu
  have eq0 : okH o d a b n = (isO o && (kp (uD o) d == d) && (kp (uA o) a == a) && (kp (uB o) b == b) && (kp (uN o) n == n) && rg d && rg a && rg b) := by
    rw [kp_eq, kp_eq, kp_eq, kp_eq]; rfl
  rw [eq0]
  clear hu eq0
  have HB0 := Lib.hid (Box5.new w (.int .i64 o) (.int .i64 d) (.int .i64 a) (.int .i64 b) (.int .u32 n) 35)
  have HB1 := Lib.hid ((Below.refl w.heap.size w).alloc (Nat.le_refl _) (.cells #[.int .i64 o, .int .i64 d, .int .i64 a, .int .i64 b, .int .u32 n] 35))
  have ho : isO o = true → kp (isO o) o = o := by intro h; rw [h]; simp [kp]
  generalize kp (uD o) d = d' at *
  generalize kp (uA o) a = a' at *
  generalize kp (uB o) b = b' at *
  generalize kp (uN o) n = n' at *
  generalize kp (isO o) o = o' at *
  cases hI : isO o
  · rw [hI] at HU
    clear ho
    go_enter Try.func40, Try.ntmps40
    go_wp2_with (go_at_call 41; refine (HU.out _).mono ?_; rintro e w1 ⟨rfl, hb⟩; obtain ⟨c0, c1, c2, c3, c4⟩ := HB0.out.keep hb (by simp); have B1 := Lib.hid (HB1.out.trans (hb.mono (by simp))); have hz1 : w.heap.size < w1.heap.size := (by have := hb.size; simp at this; omega); clear hb)
    go_ret
    exact ⟨ret_bool (by simp), B1.out.alloc (Nat.le_of_lt hz1) _⟩
  · obtain rfl := ho hI
    rw [hI] at HU
    clear ho
    cases q1 : (d' == d)
    · go_enter Try.func40, Try.ntmps40
      go_wp2_with (go_at_call 41; refine (HU.out _).mono ?_; rintro e w1 ⟨rfl, hb⟩; obtain ⟨c0, c1, c2, c3, c4⟩ := HB0.out.keep hb (by simp); have B1 := Lib.hid (HB1.out.trans (hb.mono (by simp))); have hz1 : w.heap.size < w1.heap.size := (by have := hb.size; simp at this; omega); clear hb)
      go_ret
      exact ⟨ret_bool (by simp), B1.out.alloc (Nat.le_of_lt hz1) _⟩
    cases q2 : (a' == a)
    · go_enter Try.func40, Try.ntmps40
      go_wp2_with (go_at_call 41; refine (HU.out _).mono ?_; rintro e w1 ⟨rfl, hb⟩; obtain ⟨c0, c1, c2, c3, c4⟩ := HB0.out.keep hb (by simp); have B1 := Lib.hid (HB1.out.trans (hb.mono (by simp))); have hz1 : w.heap.size < w1.heap.size := (by have := hb.size; simp at this; omega); clear hb)
      go_ret
      exact ⟨ret_bool (by simp), B1.out.alloc (Nat.le_of_lt hz1) _⟩
    cases q3 : (b' == b)
    · go_enter Try.func40, Try.ntmps40
      go_wp2_with (go_at_call 41; refine (HU.out _).mono ?_; rintro e w1 ⟨rfl, hb⟩; obtain ⟨c0, c1, c2, c3, c4⟩ := HB0.out.keep hb (by simp); have B1 := Lib.hid (HB1.out.trans (hb.mono (by simp))); have hz1 : w.heap.size < w1.heap.size := (by have := hb.size; simp at this; omega); clear hb)
      go_ret
      exact ⟨ret_bool (by simp), B1.out.alloc (Nat.le_of_lt hz1) _⟩
    cases q4 : (n' == n)
    · go_enter Try.func40, Try.ntmps40
      go_wp2_with (go_at_call 41; refine (HU.out _).mono ?_; rintro e w1 ⟨rfl, hb⟩; obtain ⟨c0, c1, c2, c3, c4⟩ := HB0.out.keep hb (by simp); have B1 := Lib.hid (HB1.out.trans (hb.mono (by simp))); have hz1 : w.heap.size < w1.heap.size := (by have := hb.size; simp at this; omega); clear hb)
      go_ret
      exact ⟨ret_bool (by simp), B1.out.alloc (Nat.le_of_lt hz1) _⟩
    have r1 := register_any d
    have r2 := register_any a
    have r3 := register_any b
    cases p1 : rg d
    · rw [p1] at r1
      have R1 := Lib.hid r1
      clear r1 r2 r3
      go_enter Try.func40, Try.ntmps40
      go_wp2_with (first | (go_at_call 41; refine (HU.out _).mono ?_; rintro e w1 ⟨rfl, hb⟩; obtain ⟨c0, c1, c2, c3, c4⟩ := HB0.out.keep hb (by simp); have B1 := Lib.hid (HB1.out.trans (hb.mono (by simp))); have hz1 : w.heap.size < w1.heap.size := (by have := hb.size; simp at this; omega); clear hb) | (go_at_call 42; refine (R1.out _).mono ?_; rintro e w2 ⟨rfl, rfl⟩))
      go_ret
      exact ⟨ret_bool (by simp), B1.out.alloc (Nat.le_of_lt hz1) _⟩
    cases p2 : rg a
    · rw [p1] at r1
      rw [p2] at r2
      have R1 := Lib.hid r1
      have R2 := Lib.hid r2
      clear r1 r2 r3
      go_enter Try.func40, Try.ntmps40
      go_wp2_with (first | (go_at_call 41; refine (HU.out _).mono ?_; rintro e w1 ⟨rfl, hb⟩; obtain ⟨c0, c1, c2, c3, c4⟩ := HB0.out.keep hb (by simp); have B1 := Lib.hid (HB1.out.trans (hb.mono (by simp))); have hz1 : w.heap.size < w1.heap.size := (by have := hb.size; simp at this; omega); clear hb) | (go_at_call 42; refine (R1.out _).mono ?_; rintro e w2 ⟨rfl, rfl⟩; clear R1) | (go_at_call 42; refine (R2.out _).mono ?_; rintro e w2 ⟨rfl, rfl⟩))
      go_ret
      exact ⟨ret_bool (by simp), B1.out.alloc (Nat.le_of_lt hz1) _⟩
    · rw [p1] at r1
      rw [p2] at r2
      have R1 := Lib.hid r1
      have R2 := Lib.hid r2
      have R3 := Lib.hid r3
      clear r1 r2 r3
      go_enter Try.func40, Try.ntmps40
      go_wp2_with (first | (go_at_call 41; refine (HU.out _).mono ?_; rintro e w1 ⟨rfl, hb⟩; obtain ⟨c0, c1, c2, c3, c4⟩ := HB0.out.keep hb (by simp); have B1 := Lib.hid (HB1.out.trans (hb.mono (by simp))); have hz1 : w.heap.size < w1.heap.size := (by have := hb.size; simp at this; omega); clear hb) | (go_at_call 42; refine (R1.out _).mono ?_; rintro e w2 ⟨rfl, rfl⟩; clear R1) | (go_at_call 42; refine (R2.out _).mono ?_; rintro e w2 ⟨rfl, rfl⟩; clear R2) | (go_at_call 42; refine (R3.out _).mono ?_; rintro e w2 ⟨rfl, rfl⟩))
      go_ret
      exact ⟨ret_bool (by simp), B1.out.alloc (Nat.le_of_lt hz1) _⟩
end Go.Proofs.Ytaghblcboimbpaa

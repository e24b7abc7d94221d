/-
  nested: New: A CONTRACT.
-/
import Derived.Test.YtoejpdhcibbgdaaTu
import Derived.Test.YtoejpdhcibbgdaaPq
namespace Go.Proofs.Ytoejpdhcibbgdaa
open Go.RowKit
set_option linter.unusedSimpArgs false
set_option linter.unusedVariables false

/-- a new table -/
def ta0 (o n : Nat) : Ta := ⟨n, o, fun _ => -1, fun _ => false⟩
def enZ : Array Value := #[.bool false, .bool false, .int .i64 0]
theorem Try.info_entry : (Try.prog.info? 107).map (fun i => (i.zero, i.size, i.bytes)) = some (some (.agg enZ), 3, 16) := by kernel_rfl
theorem make_entries (n : Nat) (hn : n ≤ 64) (W : World) :
    (Instr.makeSlice 90 (.int .i64 (n : Int)) (.int .i64 (n : Int))).run Try.prog W = .ok (.slice (some ⟨W.heap.size, 0, none⟩) n n) (W.alloc (.cells (madeCells enZ (n * 3)) 107)) := by
  obtain ⟨i, hi, hzz⟩ := Option.map_eq_some_iff.1 Try.info_entry
  simp only [Prod.mk.injEq] at hzz
  obtain ⟨hz, hs, hb⟩ := hzz
  have hr := run_make (P := Try.prog) W 90 107 i (.agg enZ) Try.underlying90 hi hz .i64 .i64 n n (by omega) (Int.le_refl _) (by rw [hb]; omega) (by omega)
  simp only [Int.toNat_natCast, hs] at hr
  exact hr
theorem made_get (n k j : Nat) (hk : k < n) (hj : j < 3) : (madeCells enZ (n * 3))[k * 3 + j]? = enZ[j]? := by
  have e : (k * 3 + j) % 3 = j := by omega
  have h3 : enZ.size = 3 := rfl
  have hlt : k * 3 + j < n * 3 := by omega
  unfold madeCells
  rw [Array.getElem?_map, Array.getElem?_range, if_pos hlt]
  simp only [Option.map_some, h3, e]
  obtain rfl | rfl | rfl : j = 0 ∨ j = 1 ∨ j = 2 := by omega
  all_goals rfl
/-- how New answers -/
def newE (S : Po) (o n : Int) : Int := if n < 1 ∨ 64 < n then 1 else S.promV o n
def newS (S : Po) (o n : Int) : Po := if newE S o n = 0 then S.promS o n else S
theorem ta0_isT (w : World) (g o n : Nat) (hg : g < w.heap.size) (ho : o < 4) (h1 : 1 ≤ n) (h2 : n ≤ 64) :
    IsT ((w.alloc (.cells (madeCells enZ (n * 3)) 107)).alloc (.cells #[.pointer (some ⟨g, 0, none⟩), .int .i64 o, .slice (some ⟨w.heap.size, 0, none⟩) n n] 92)) g (w.heap.size + 1) w.heap.size (ta0 o n) := by
  have hb := Blk.new (w.alloc (.cells (madeCells enZ (n * 3)) 107)) 92 #[.pointer (some ⟨g, 0, none⟩), .int .i64 o, .slice (some ⟨w.heap.size, 0, none⟩) n n]
  have hs : (w.alloc (.cells (madeCells enZ (n * 3)) 107)).heap.size = w.heap.size + 1 := by simp
  rw [hs] at hb
  have hr := (Blk.new w 107 (madeCells enZ (n * 3))).alloc (.cells #[.pointer (some ⟨g, 0, none⟩), .int .i64 o, .slice (some ⟨w.heap.size, 0, none⟩) n n] 92)
  exact ⟨⟨h1, h2, ho, fun _ => .inl rfl, fun _ h => by cases h⟩, by omega, by omega, by omega, hb.lt, hr.lt, hb.cell 0, hb.cell 1, hb.cell 2,
    fun k hk => (hr.cell _).trans (made_get n k 0 hk (by omega)), fun k hk => (hr.cell _).trans (made_get n k 1 hk (by omega)), fun k hk => (hr.cell _).trans (made_get n k 2 hk (by omega)), fun i => hr.frozen i⟩
/-- what New leaves -/
def Newd (S : Po) (g : Nat) (o n : Int) (w : World) (e : Ending) (w' : World) : Prop :=
  IsP w' g (newS S o n) ∧ Turn g g w w' ∧
  ((newE S o n ≠ 0 ∧ e = .returned (.tuple #[.pointer none, .int .i64 (newE S o n)])) ∨
   (newE S o n = 0 ∧ ∃ h r, e = .returned (.tuple #[.pointer (some ⟨h, 0, none⟩), .int .i64 0]) ∧ w.heap.size ≤ h ∧ w.heap.size ≤ r ∧ IsT w' g h r (ta0 o.toNat n.toNat)))
section
variable {g : Nat} {S : Po}
theorem newT_nil (o n : Int) (w : World) : Calls Try.prog 21 #[.pointer none, .int .i64 o, .int .i64 n] w fun e w' => e = .returned (.tuple #[.pointer none, .int .i64 1]) ∧ w = w' := by
  go_enter Try.func21, Try.ntmps21
  go_wp2
  go_ret2
  exact ⟨rfl, rfl⟩
set_option maxRecDepth 100000 in
theorem newT_any (o n : Int) (w : World) (hP : IsP w g S) :
    Calls Try.prog 21 #[.pointer (some ⟨g, 0, none⟩), .int .i64 o, .int .i64 n] w (Newd S g o n w) := by
  have HP := Lib.hid hP
  unfold Newd
  by_cases hn : n < 1 ∨ 64 < n
  · have e0 : newE S o n = 1 := by unfold newE; rw [if_pos hn]
    have e1 : newS S o n = S := by unfold newS; rw [if_neg (by rw [e0]; decide)]
    rw [e0, e1]
    clear hP e0 e1
    by_cases h1 : n < 1
    · clear hn
      go_enter Try.func21, Try.ntmps21
      go_wp2
      go_ret2
      first | exact ⟨HP.out, Turn.refl _ _ _, rfl⟩ | exact ⟨HP.out, Turn.refl _ _ _, .inl ⟨by simp, rfl⟩⟩
    · have h5 : decide (n < 1) = false := by simp; omega
      have h6 : decide (n > 64) = true := by simp; omega
      clear hn
      go_enter Try.func21, Try.ntmps21
      go_wp2
      go_ret2
      first | exact ⟨HP.out, Turn.refl _ _ _, rfl⟩ | exact ⟨HP.out, Turn.refl _ _ _, .inl ⟨by simp, rfl⟩⟩
  · have e0 : newE S o n = S.promV o n := by unfold newE; rw [if_neg hn]
    have hn1 : 1 ≤ n := by omega
    have hn2 : n ≤ 64 := by omega
    have h5 : decide (n < 1) = false := by simp; omega
    have h6 : decide (n > 64) = false := by simp; omega
    have e1 : newS S o n = S.promS o n := by
      unfold newS; rw [e0]; split
      · rfl
      · rename_i h; exact (promS_no h).symm
    rw [e0, e1]
    have HPR := Lib.hid (promise_any o n w hP)
    unfold Promd at HPR
    by_cases hv : S.promV o n = 0
    · rw [hv] at HPR ⊢
      have hb : oB o = true := by
        rcases promV_cases S o n with ⟨h, _⟩ | ⟨h, _⟩
        · rw [h] at hv; cases hv
        · exact h
      obtain ⟨k, rfl, hk⟩ := oB_true hb
      obtain ⟨m, rfl⟩ := Int.eq_ofNat_of_zero_le (show 0 ≤ n by omega)
      simp only [Int.toNat_natCast]
      have hmk := make_entries m (by omega)
      have HTA := Lib.hid (fun (W : World) (hg : g < W.heap.size) => ta0_isT W g k m hg hk (by omega) (by omega))
      have HZ := Lib.hid hP.z
      generalize madeCells enZ (m * 3) = Z at *
      clear hP hv hb hn e0 e1
      go_enter Try.func21, Try.ntmps21
      go_wp2_with (go_at_call 39; refine HPR.out.mono ?_; rintro e w1 ⟨rfl, hp1, ht1⟩; have HP1 := Lib.hid hp1; have HT1 := Lib.hid ht1; clear hp1 ht1)
      go_ret2
      have hb1 : Below w1.heap.size w1 ((w1.alloc (.cells Z 107)).alloc (.cells #[.pointer (some ⟨g, 0, none⟩), .int .i64 k, .slice (some ⟨w1.heap.size, 0, none⟩) m m] 92)) :=
        ((Below.refl _ _).alloc (Nat.le_refl _) _).alloc (by simp) _
      have hs := HT1.out.size
      refine ⟨HP1.out.below hb1, HT1.out.trans (Turn.of_below hb1), .inr ⟨by trivial, w1.heap.size + 1, w1.heap.size, rfl, by omega, hs, HTA.out w1 HP1.out.z⟩⟩
    · have HV := Lib.hid hv
      have hv2 : (S.promV o n != 0) = true := by simpa using hv
      generalize S.promV o n = v at *
      clear hP hv hn e0 e1
      go_enter Try.func21, Try.ntmps21
      go_wp2_with (go_at_call 39; refine HPR.out.mono ?_; rintro e w1 ⟨rfl, hp1, ht1⟩; have HP1 := Lib.hid hp1; have HT1 := Lib.hid ht1; clear hp1 ht1)
      go_ret2
      exact ⟨HP1.out, HT1.out, .inl ⟨HV.out, rfl⟩⟩
end
end Go.Proofs.Ytoejpdhcibbgdaa

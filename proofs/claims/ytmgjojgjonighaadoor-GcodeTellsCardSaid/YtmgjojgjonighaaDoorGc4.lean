/-
  gcode's names of operations, and innkeeperref2.Name: A CONTRACT EACH.
-/
import Derived.Test.YtmgjojgjonighaaDoorGc2
import Derived.Lib.Hide
namespace Go.Proofs.YtmgjojgjonighaaDoor
open Go.RowKit
set_option linter.unusedSimpArgs false
set_option linter.unusedVariables false

theorem ret_str {a b : List UInt8} (h : a = b) : Ending.returned (.string ⟨a.toArray⟩) = .returned (.string ⟨b.toArray⟩) := by rw [h]
/-- an operation's name -/
def nmV (op : Int) : List UInt8 :=
  if op = 0 then [110, 111, 112]
  else if op = 1 then [108, 105, 116, 56]
  else if op = 2 then [108, 105, 116, 51, 50]
  else if op = 3 then [100, 117, 112]
  else if op = 4 then [100, 114, 111, 112]
  else if op = 5 then [115, 119, 97, 112]
  else if op = 6 then [111, 118, 101, 114]
  else if op = 7 then [116, 111, 114]
  else if op = 8 then [102, 114, 111, 109, 114]
  else if op = 16 then [97, 100, 100]
  else if op = 17 then [115, 117, 98]
  else if op = 18 then [97, 110, 100]
  else if op = 19 then [111, 114]
  else if op = 20 then [120, 111, 114]
  else if op = 21 then [115, 104, 108]
  else if op = 22 then [115, 104, 114]
  else if op = 23 then [109, 117, 108]
  else if op = 24 then [100, 105, 118]
  else if op = 25 then [99, 109, 112]
  else if op = 32 then [106, 109, 112]
  else if op = 33 then [106, 122]
  else if op = 34 then [106, 110, 122]
  else if op = 35 then [106, 99]
  else if op = 36 then [106, 110]
  else if op = 37 then [106, 118]
  else if op = 38 then [99, 97, 108, 108]
  else if op = 39 then [114, 101, 116]
  else if op = 40 then [106, 109, 112, 105]
  else if op = 48 then [108, 100]
  else if op = 49 then [115, 116]
  else if op = 50 then [108, 100, 117]
  else if op = 51 then [115, 116, 117]
  else if op = 52 then [108, 100, 98]
  else if op = 53 then [115, 116, 98]
  else if op = 64 then [115, 121, 115]
  else if op = 65 then [105, 114, 101, 116]
  else if op = 66 then [99, 115, 114, 114]
  else if op = 67 then [99, 115, 114, 119]
  else if op = 68 then [116, 108, 98, 105]
  else if op = 69 then [104, 97, 108, 116]
  else []
theorem stack_any (op : Int) (h0 : 0 ≤ op) (h1 : op ≤ 8) (w : World) :
    Calls Tryd.prog 42 #[.int .i64 op] w fun e w' => e = .returned (.string ⟨(nmV op).toArray⟩) ∧ w = w' := by
  have H0 := Lib.hid h0
  have H1 := Lib.hid h1
  clear h0 h1
  go_enter Tryd.func42, Tryd.ntmps42
  go_wp2
  all_goals (go_ret; refine ⟨?_, rfl⟩)
  all_goals (have h0 := H0.out; have h1 := H1.out; clear H0 H1; simp only [beq_iff_eq, beq_eq_false_iff_ne, ne_eq] at *; first | (exfalso; omega) | (subst op; rfl))
theorem word_any (op : Int) (h0 : 16 ≤ op) (h1 : op ≤ 25) (w : World) :
    Calls Tryd.prog 43 #[.int .i64 op] w fun e w' => e = .returned (.string ⟨(nmV op).toArray⟩) ∧ w = w' := by
  have H0 := Lib.hid h0
  have H1 := Lib.hid h1
  clear h0 h1
  go_enter Tryd.func43, Tryd.ntmps43
  go_wp2
  all_goals (go_ret; refine ⟨?_, rfl⟩)
  all_goals (have h0 := H0.out; have h1 := H1.out; clear H0 H1; simp only [beq_iff_eq, beq_eq_false_iff_ne, ne_eq] at *; first | (exfalso; omega) | (subst op; rfl))
theorem jump_any (op : Int) (h0 : 32 ≤ op) (h1 : op ≤ 40) (w : World) :
    Calls Tryd.prog 44 #[.int .i64 op] w fun e w' => e = .returned (.string ⟨(nmV op).toArray⟩) ∧ w = w' := by
  have H0 := Lib.hid h0
  have H1 := Lib.hid h1
  clear h0 h1
  go_enter Tryd.func44, Tryd.ntmps44
  go_wp2
  all_goals (go_ret; refine ⟨?_, rfl⟩)
  all_goals (have h0 := H0.out; have h1 := H1.out; clear H0 H1; simp only [beq_iff_eq, beq_eq_false_iff_ne, ne_eq] at *; first | (exfalso; omega) | (subst op; rfl))
theorem memory_any (op : Int) (h0 : 48 ≤ op) (h1 : op ≤ 53) (w : World) :
    Calls Tryd.prog 45 #[.int .i64 op] w fun e w' => e = .returned (.string ⟨(nmV op).toArray⟩) ∧ w = w' := by
  have H0 := Lib.hid h0
  have H1 := Lib.hid h1
  clear h0 h1
  go_enter Tryd.func45, Tryd.ntmps45
  go_wp2
  all_goals (go_ret; refine ⟨?_, rfl⟩)
  all_goals (have h0 := H0.out; have h1 := H1.out; clear H0 H1; simp only [beq_iff_eq, beq_eq_false_iff_ne, ne_eq] at *; first | (exfalso; omega) | (subst op; rfl))
theorem system_any (op : Int) (h0 : 64 ≤ op) (h1 : op ≤ 69) (w : World) :
    Calls Tryd.prog 46 #[.int .i64 op] w fun e w' => e = .returned (.string ⟨(nmV op).toArray⟩) ∧ w = w' := by
  have H0 := Lib.hid h0
  have H1 := Lib.hid h1
  clear h0 h1
  go_enter Tryd.func46, Tryd.ntmps46
  go_wp2
  all_goals (go_ret; refine ⟨?_, rfl⟩)
  all_goals (have h0 := H0.out; have h1 := H1.out; clear H0 H1; simp only [beq_iff_eq, beq_eq_false_iff_ne, ne_eq] at *; first | (exfalso; omega) | (subst op; rfl))
theorem name_any (op : Int) (h : szV op ≠ 0) (w : World) :
    Calls Tryd.prog 40 #[.int .i64 op] w fun e w' => e = .returned (.string ⟨(nmV op).toArray⟩) ∧ w = w' := by
  have hr : (0 ≤ op ∧ op ≤ 8) ∨ (16 ≤ op ∧ op ≤ 25) ∨ (32 ≤ op ∧ op ≤ 40) ∨ (48 ≤ op ∧ op ≤ 53) ∨ (64 ≤ op ∧ op ≤ 69) := by
    unfold szV at h; (repeat' split at h) <;> omega
  clear h
  rcases hr with ⟨h0, h1⟩ | ⟨h0, h1⟩ | ⟨h0, h1⟩ | ⟨h0, h1⟩ | ⟨h0, h1⟩
  · have e0 : wiV op 0 8 = true := by simp [wiV]; omega
    have H0 := Lib.hid h0
    have H1 := Lib.hid h1
    clear h0 h1
    go_enter Tryd.func40, Tryd.ntmps40
    go_wp2_with (first | (go_at_call 39; refine (within_any _ _ _ _).mono ?_; rintro e w' ⟨rfl, rfl⟩) | (go_at_call 42; refine (stack_any _ H0.out H1.out _).mono ?_; rintro e w' ⟨rfl, rfl⟩))
    go_ret
    exact ⟨rfl, rfl⟩
  · have e0 : wiV op 0 8 = false := by simp [wiV]; omega
    have e1 : wiV op 16 25 = true := by simp [wiV]; omega
    have H0 := Lib.hid h0
    have H1 := Lib.hid h1
    clear h0 h1
    go_enter Tryd.func40, Tryd.ntmps40
    go_wp2_with (first | (go_at_call 39; refine (within_any _ _ _ _).mono ?_; rintro e w' ⟨rfl, rfl⟩) | (go_at_call 43; refine (word_any _ H0.out H1.out _).mono ?_; rintro e w' ⟨rfl, rfl⟩))
    go_ret
    exact ⟨rfl, rfl⟩
  · have e0 : wiV op 0 8 = false := by simp [wiV]; omega
    have e1 : wiV op 16 25 = false := by simp [wiV]; omega
    have e2 : wiV op 32 40 = true := by simp [wiV]; omega
    have H0 := Lib.hid h0
    have H1 := Lib.hid h1
    clear h0 h1
    go_enter Tryd.func40, Tryd.ntmps40
    go_wp2_with (first | (go_at_call 39; refine (within_any _ _ _ _).mono ?_; rintro e w' ⟨rfl, rfl⟩) | (go_at_call 44; refine (jump_any _ H0.out H1.out _).mono ?_; rintro e w' ⟨rfl, rfl⟩))
    go_ret
    exact ⟨rfl, rfl⟩
  · have e0 : wiV op 0 8 = false := by simp [wiV]; omega
    have e1 : wiV op 16 25 = false := by simp [wiV]; omega
    have e2 : wiV op 32 40 = false := by simp [wiV]; omega
    have e3 : wiV op 48 53 = true := by simp [wiV]; omega
    have H0 := Lib.hid h0
    have H1 := Lib.hid h1
    clear h0 h1
    go_enter Tryd.func40, Tryd.ntmps40
    go_wp2_with (first | (go_at_call 39; refine (within_any _ _ _ _).mono ?_; rintro e w' ⟨rfl, rfl⟩) | (go_at_call 45; refine (memory_any _ H0.out H1.out _).mono ?_; rintro e w' ⟨rfl, rfl⟩))
    go_ret
    exact ⟨rfl, rfl⟩
  · have e0 : wiV op 0 8 = false := by simp [wiV]; omega
    have e1 : wiV op 16 25 = false := by simp [wiV]; omega
    have e2 : wiV op 32 40 = false := by simp [wiV]; omega
    have e3 : wiV op 48 53 = false := by simp [wiV]; omega
    have e4 : wiV op 64 69 = true := by simp [wiV]; omega
    have H0 := Lib.hid h0
    have H1 := Lib.hid h1
    clear h0 h1
    go_enter Tryd.func40, Tryd.ntmps40
    go_wp2_with (first | (go_at_call 39; refine (within_any _ _ _ _).mono ?_; rintro e w' ⟨rfl, rfl⟩) | (go_at_call 46; refine (system_any _ H0.out H1.out _).mono ?_; rintro e w' ⟨rfl, rfl⟩))
    go_ret
    exact ⟨rfl, rfl⟩
set_option maxRecDepth 100000 in
set_option maxHeartbeats 1000000 in
theorem rname_any (op : Int) (h : szV op ≠ 0) (w : World) :
    Calls Tryd.prog 28 #[.int .i64 op] w fun e w' => e = .returned (.string ⟨(nmV op).toArray⟩) ∧ Below w.heap.size w w' := by
  have hr : op = 0 ∨ op = 1 ∨ op = 2 ∨ op = 3 ∨ op = 4 ∨ op = 5 ∨ op = 6 ∨ op = 7 ∨ op = 8 ∨ op = 16 ∨ op = 17 ∨ op = 18 ∨ op = 19 ∨ op = 20 ∨ op = 21 ∨ op = 22 ∨ op = 23 ∨ op = 24 ∨ op = 25 ∨ op = 32 ∨ op = 33 ∨ op = 34 ∨ op = 35 ∨ op = 36 ∨ op = 37 ∨ op = 38 ∨ op = 39 ∨ op = 40 ∨ op = 48 ∨ op = 49 ∨ op = 50 ∨ op = 51 ∨ op = 52 ∨ op = 53 ∨ op = 64 ∨ op = 65 ∨ op = 66 ∨ op = 67 ∨ op = 68 ∨ op = 69 := by
    unfold szV at h; (repeat' split at h) <;> omega
  clear h
  rcases hr with rfl | rfl | rfl | rfl | rfl | rfl | rfl | rfl | rfl | rfl | rfl | rfl | rfl | rfl | rfl | rfl | rfl | rfl | rfl | rfl | rfl | rfl | rfl | rfl | rfl | rfl | rfl | rfl | rfl | rfl | rfl | rfl | rfl | rfl | rfl | rfl | rfl | rfl | rfl | rfl
  all_goals
    go_enter Tryd.func28, Tryd.ntmps28
    go_wp2
    go_ret
    exact ⟨rfl, (Below.refl _ _).alloc (Nat.le_refl _) _⟩
end Go.Proofs.YtmgjojgjonighaaDoor

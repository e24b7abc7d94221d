/-
  innkeeperlaw3.made, and the very blocks that it makes: A CONTRACT.
-/
import Derived.Test.YthobedekeebadaaDoorHm
namespace Go.Proofs.YthobedekeebadaaDoor
open Go.RowKit
set_option linter.unusedSimpArgs false
set_option linter.unusedVariables false

set_option maxRecDepth 100000 in
set_option maxHeartbeats 2000000 in
theorem made_exact (o d a b n : Int) (o0 : -9223372036854775808 ≤ o) (o1 : o ≤ 9223372036854775807) (d0 : -9223372036854775808 ≤ d) (d1 : d ≤ 9223372036854775807) (a0 : -9223372036854775808 ≤ a) (a1 : a ≤ 9223372036854775807) (b0 : -9223372036854775808 ≤ b) (b1 : b ≤ 9223372036854775807) (w : World) :
    Calls Tryd.prog 6 #[hv o d a b n] w fun e w' => e = .returned (mdI o d a b n).v ∧ ∃ x y z : Obj, w' = ((w.alloc x).alloc y).alloc z := by
  have ho := within_book o 19 o0 o1 (by omega) (by omega)
  have hd := within_book d 15 d0 d1 (by omega) (by omega)
  have ha := within_book a 15 a0 a1 (by omega) (by omega)
  have hb := within_book b 15 b0 b1 (by omega) (by omega)
  obtain ⟨x0, x1⟩ := wdV_bd o 0 19 (by omega)
  unfold mdI Hi.v
  simp only
  generalize wdV o 0 19 = x at *
  generalize wdV d 0 15 = y1 at *
  generalize wdV a 0 15 = y2 at *
  generalize wdV b 0 15 = y3 at *
  have hf := fields_any x
  obtain ⟨t1, t2, t3, t4⟩ := fd_bits x x0 x1
  generalize fdV x = F at *
  have HO := Lib.hid ho
  have HD := Lib.hid hd
  have HA := Lib.hid ha
  have HB := Lib.hid hb
  have HF := Lib.hid hf
  clear ho hd ha hb hf
  rcases fd_kinds x x0 x1 with ⟨q1, q2, q3, q4⟩ | ⟨q1, q2, q3, q4⟩ | ⟨q1, q2, q3, q4⟩ | ⟨q1, q2, q3, q4⟩ | ⟨q1, q2, q3, q4⟩ | ⟨q1, q2, q3, q4⟩ | ⟨q1, q2, q3, q4⟩ | ⟨q1, q2, q3, q4⟩
  · rw [q1] at t1
    rw [q2] at t2
    rw [q3] at t3
    rw [q4] at t4
    rw [q1, q2, q3, q4]
    simp only [kp, if_true, if_false, Bool.false_eq_true]
    clear q1 q2 q3 q4 x0 x1 o0 o1 d0 d1 a0 a1 b0 b1 HD HA HB
    go_enter Tryd.func6, Tryd.ntmps6
    go_wp2_with (first
      | (go_at_call 14; refine (HO.out _).mono ?_; rintro e w1 ⟨rfl, rfl⟩; clear HO)
      | (go_at_call 15; refine (HF.out _).mono ?_; rintro e w1 ⟨rfl, rfl⟩))
    refine bodyPost_ret ?_ rfl ⟨rfl, _, _, _, rfl⟩
    simp [results, Tryd.results6, go_sem]
  · rw [q1] at t1
    rw [q2] at t2
    rw [q3] at t3
    rw [q4] at t4
    rw [q1, q2, q3, q4]
    simp only [kp, if_true, if_false, Bool.false_eq_true]
    clear q1 q2 q3 q4 x0 x1 o0 o1 d0 d1 a0 a1 b0 b1 HA HB
    go_enter Tryd.func6, Tryd.ntmps6
    go_wp2_with (first
      | (go_at_call 14; refine (HO.out _).mono ?_; rintro e w1 ⟨rfl, rfl⟩; clear HO)
      | (go_at_call 14; refine (HD.out _).mono ?_; rintro e w1 ⟨rfl, rfl⟩; clear HD)
      | (go_at_call 15; refine (HF.out _).mono ?_; rintro e w1 ⟨rfl, rfl⟩))
    refine bodyPost_ret ?_ rfl ⟨rfl, _, _, _, rfl⟩
    simp [results, Tryd.results6, go_sem]
  · rw [q1] at t1
    rw [q2] at t2
    rw [q3] at t3
    rw [q4] at t4
    rw [q1, q2, q3, q4]
    simp only [kp, if_true, if_false, Bool.false_eq_true]
    clear q1 q2 q3 q4 x0 x1 o0 o1 d0 d1 a0 a1 b0 b1 HB
    go_enter Tryd.func6, Tryd.ntmps6
    go_wp2_with (first
      | (go_at_call 14; refine (HO.out _).mono ?_; rintro e w1 ⟨rfl, rfl⟩; clear HO)
      | (go_at_call 14; refine (HD.out _).mono ?_; rintro e w1 ⟨rfl, rfl⟩; clear HD)
      | (go_at_call 14; refine (HA.out _).mono ?_; rintro e w1 ⟨rfl, rfl⟩; clear HA)
      | (go_at_call 15; refine (HF.out _).mono ?_; rintro e w1 ⟨rfl, rfl⟩))
    refine bodyPost_ret ?_ rfl ⟨rfl, _, _, _, rfl⟩
    simp [results, Tryd.results6, go_sem]
  · rw [q1] at t1
    rw [q2] at t2
    rw [q3] at t3
    rw [q4] at t4
    rw [q1, q2, q3, q4]
    simp only [kp, if_true, if_false, Bool.false_eq_true]
    clear q1 q2 q3 q4 x0 x1 o0 o1 d0 d1 a0 a1 b0 b1 
    go_enter Tryd.func6, Tryd.ntmps6
    go_wp2_with (first
      | (go_at_call 14; refine (HO.out _).mono ?_; rintro e w1 ⟨rfl, rfl⟩; clear HO)
      | (go_at_call 14; refine (HD.out _).mono ?_; rintro e w1 ⟨rfl, rfl⟩; clear HD)
      | (go_at_call 14; refine (HA.out _).mono ?_; rintro e w1 ⟨rfl, rfl⟩; clear HA)
      | (go_at_call 14; refine (HB.out _).mono ?_; rintro e w1 ⟨rfl, rfl⟩; clear HB)
      | (go_at_call 15; refine (HF.out _).mono ?_; rintro e w1 ⟨rfl, rfl⟩))
    refine bodyPost_ret ?_ rfl ⟨rfl, _, _, _, rfl⟩
    simp [results, Tryd.results6, go_sem]
  · rw [q1] at t1
    rw [q2] at t2
    rw [q3] at t3
    rw [q4] at t4
    rw [q1, q2, q3, q4]
    simp only [kp, if_true, if_false, Bool.false_eq_true]
    clear q1 q2 q3 q4 x0 x1 o0 o1 d0 d1 a0 a1 b0 b1 HB
    go_enter Tryd.func6, Tryd.ntmps6
    go_wp2_with (first
      | (go_at_call 14; refine (HO.out _).mono ?_; rintro e w1 ⟨rfl, rfl⟩; clear HO)
      | (go_at_call 14; refine (HD.out _).mono ?_; rintro e w1 ⟨rfl, rfl⟩; clear HD)
      | (go_at_call 14; refine (HA.out _).mono ?_; rintro e w1 ⟨rfl, rfl⟩; clear HA)
      | (go_at_call 15; refine (HF.out _).mono ?_; rintro e w1 ⟨rfl, rfl⟩))
    refine bodyPost_ret ?_ rfl ⟨rfl, _, _, _, rfl⟩
    simp [results, Tryd.results6, go_sem]
  · rw [q1] at t1
    rw [q2] at t2
    rw [q3] at t3
    rw [q4] at t4
    rw [q1, q2, q3, q4]
    simp only [kp, if_true, if_false, Bool.false_eq_true]
    clear q1 q2 q3 q4 x0 x1 o0 o1 d0 d1 a0 a1 b0 b1 HD
    go_enter Tryd.func6, Tryd.ntmps6
    go_wp2_with (first
      | (go_at_call 14; refine (HO.out _).mono ?_; rintro e w1 ⟨rfl, rfl⟩; clear HO)
      | (go_at_call 14; refine (HA.out _).mono ?_; rintro e w1 ⟨rfl, rfl⟩; clear HA)
      | (go_at_call 14; refine (HB.out _).mono ?_; rintro e w1 ⟨rfl, rfl⟩; clear HB)
      | (go_at_call 15; refine (HF.out _).mono ?_; rintro e w1 ⟨rfl, rfl⟩))
    refine bodyPost_ret ?_ rfl ⟨rfl, _, _, _, rfl⟩
    simp [results, Tryd.results6, go_sem]
  · rw [q1] at t1
    rw [q2] at t2
    rw [q3] at t3
    rw [q4] at t4
    rw [q1, q2, q3, q4]
    simp only [kp, if_true, if_false, Bool.false_eq_true]
    clear q1 q2 q3 q4 x0 x1 o0 o1 d0 d1 a0 a1 b0 b1 HD HB
    go_enter Tryd.func6, Tryd.ntmps6
    go_wp2_with (first
      | (go_at_call 14; refine (HO.out _).mono ?_; rintro e w1 ⟨rfl, rfl⟩; clear HO)
      | (go_at_call 14; refine (HA.out _).mono ?_; rintro e w1 ⟨rfl, rfl⟩; clear HA)
      | (go_at_call 15; refine (HF.out _).mono ?_; rintro e w1 ⟨rfl, rfl⟩))
    refine bodyPost_ret ?_ rfl ⟨rfl, _, _, _, rfl⟩
    simp [results, Tryd.results6, go_sem]
  · rw [q1] at t1
    rw [q2] at t2
    rw [q3] at t3
    rw [q4] at t4
    rw [q1, q2, q3, q4]
    simp only [kp, if_true, if_false, Bool.false_eq_true]
    clear q1 q2 q3 q4 x0 x1 o0 o1 d0 d1 a0 a1 b0 b1 HD HA HB
    go_enter Tryd.func6, Tryd.ntmps6
    go_wp2_with (first
      | (go_at_call 14; refine (HO.out _).mono ?_; rintro e w1 ⟨rfl, rfl⟩; clear HO)
      | (go_at_call 15; refine (HF.out _).mono ?_; rintro e w1 ⟨rfl, rfl⟩))
    refine bodyPost_ret ?_ rfl ⟨rfl, _, _, _, rfl⟩
    simp [results, Tryd.results6, go_sem]
end Go.Proofs.YthobedekeebadaaDoor

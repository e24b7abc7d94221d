/-
  walk.Look: A CONTRACT.
-/
import Derived.Test.YtoejpdhcibbgdaaWk
import Derived.OwnWalk
namespace Go.Proofs.Ytoejpdhcibbgdaa
open Go.RowKit
set_option linter.unusedSimpArgs false
set_option linter.unusedVariables false

section
variable {p : Bl} {X : Rm}
/-- a word of a memory, a natural number -/
theorem wordN_any (a : Nat) (ha : a < 4294967296) (w : World) (hM : IsM w p X) (h : a + 4 ≤ X.n * 64) :
    Calls Try.prog 19 #[.pointer (some ⟨p.m, 0, none⟩), .int .u32 a] w (Told (.tuple #[.int .u32 (X.wn a : Nat), .bool true]) w) := by
  have := wordM_any a ha w hM
  rw [show X.wdV a = ((X.wn a : Nat) : Int) by unfold Rm.wdV; rw [if_pos h]; exact (wn_eq hM.ok a h).1, decide_eq_true h] at this
  exact this
theorem wordNo_any (a : Nat) (ha : a < 4294967296) (w : World) (hM : IsM w p X) (h : ¬ a + 4 ≤ X.n * 64) :
    Calls Try.prog 19 #[.pointer (some ⟨p.m, 0, none⟩), .int .u32 a] w (Told (.tuple #[.int .u32 0, .bool false]) w) := by
  have := wordM_any a ha w hM
  rw [show X.wdV a = 0 by unfold Rm.wdV; rw [if_neg h], decide_eq_false h] at this
  exact this
set_option maxRecDepth 100000 in
set_option maxHeartbeats 2000000 in
theorem look_any (r v : Nat) (hr : r < 4294967296) (hv : v < 4294967296) (w : World) (hM : IsM w p X) :
    Calls Try.prog 18 #[.pointer (some ⟨p.m, 0, none⟩), .int .u32 r, .int .u32 v] w (Told (.tuple #[.int .u32 (X.lkA r v : Nat), .int .u32 (X.lkE r v : Nat), .bool (X.lkB r v)]) w) := by
  have fin0 : X.lkB r v = false → (Value.tuple #[.int .u32 (X.lkA r v : Nat), .int .u32 (X.lkE r v : Nat), .bool (X.lkB r v)]) = .tuple #[.int .u32 0, .int .u32 0, .bool false] := fun h => by
    rw [(lk_no h).1, (lk_no h).2, h]; rfl
  have FIN := Lib.hid fin0
  unfold Told
  by_cases hv2 : v < 16384
  · have q1 : ((r : Int)).tdiv 64 = ((r / 64 : Nat) : Int) := by rw [Int.tdiv_eq_ediv_of_nonneg (by omega)]; omega
    have q2 : ((v : Int)).tdiv 64 = ((v / 64 : Nat) : Int) := by rw [Int.tdiv_eq_ediv_of_nonneg (by omega)]; omega
    have q3 : (((v / 64 : Nat) : Int)).tdiv 16 = ((v / 1024 : Nat) : Int) := by rw [Int.tdiv_eq_ediv_of_nonneg (by omega)]; omega
    have q4 : (((v / 64 : Nat) : Int)).tmod 16 = ((v / 64 % 16 : Nat) : Int) := by rw [Int.tmod_eq_emod_of_nonneg (by omega)]; omega
    have s1 := slotAt_any (r / 64) (v / 1024) (by omega)
    rw [show r / 64 * 64 + v / 1024 * 4 = l1 r v by unfold l1; omega] at s1
    have b1 : l1 r v < 4294967296 := by unfold l1; omega
    have c1 : ((r / 64 : Nat) : Int) < 4294967296 := by omega
    have c2 : ((v / 64 : Nat) : Int) < 256 := by omega
    have c3 : ((v / 1024 : Nat) : Int) < 256 := by omega
    have c4 : ((v / 64 % 16 : Nat) : Int) < 16 := by omega
    have c5 : (v : Int) < 16384 := by omega
    have d1 : (0 : Int) ≤ ((r / 64 : Nat) : Int) := by omega
    have d2 : (0 : Int) ≤ ((v / 64 : Nat) : Int) := by omega
    have d3 : (0 : Int) ≤ ((v / 1024 : Nat) : Int) := by omega
    have d4 : (0 : Int) ≤ ((v / 64 % 16 : Nat) : Int) := by omega
    by_cases hw1 : l1 r v + 4 ≤ X.n * 64
    · have g1 := wordN_any (l1 r v) b1 w hM hw1
      have f0 := (wn_eq hM.ok _ hw1).2
      have s2 := slotAt_any (X.wn (l1 r v) / 256) (v / 64 % 16) (by omega)
      rw [show X.wn (l1 r v) / 256 * 64 + v / 64 % 16 * 4 = l2 (X.wn (l1 r v)) v from rfl] at s2
      have n1 := number_any (X.wn (l1 r v)) f0
      have a1 := and1 (X.wn (l1 r v)) f0
      have b2 : l2 (X.wn (l1 r v)) v < 4294967296 := by unfold l2; omega
      have g2 := fun (h : l2 (X.wn (l1 r v)) v + 4 ≤ X.n * 64) m => wordN_any _ b2 (w.drewN m) (hM.drewN m) h
      have g3 := fun (h : ¬ l2 (X.wn (l1 r v)) v + 4 ≤ X.n * 64) m => wordNo_any _ b2 (w.drewN m) (hM.drewN m) h
      have FINY := Lib.hid (fun (h1 : X.wn (l1 r v) % 2 = 1) (h2 : l2 (X.wn (l1 r v)) v + 4 ≤ X.n * 64) => (show X.lkB r v = true by unfold Rm.lkB; rw [decide_eq_true hv2, decide_eq_true hw1, decide_eq_true h1, decide_eq_true h2]; rfl))
      have FINN := Lib.hid (fun (h1 : ¬ (X.wn (l1 r v) % 2 = 1 ∧ l2 (X.wn (l1 r v)) v + 4 ≤ X.n * 64)) => (show X.lkB r v = false by
        unfold Rm.lkB; rw [decide_eq_true hv2, decide_eq_true hw1, ← Bool.decide_and, decide_eq_false h1]; rfl))
      have FINV := Lib.hid (fun (h : X.lkB r v = true) => lk_yes h)
      generalize hL : l2 (X.wn (l1 r v)) v = a2 at *
      generalize hF : X.wn (l1 r v) = f at *
      generalize l1 r v = a at *
      have S1 := Lib.hid s1
      have S2 := Lib.hid s2
      have G1 := Lib.hid g1
      have N1 := Lib.hid n1
      unfold Told at G1
      clear s1 s2 g1 n1 fin0 hF hL b1 b2 hM hr hv hw1 hv2
      generalize ((v / 64 % 16 : Nat) : Int) = vm at *
      generalize ((v / 1024 : Nat) : Int) = vt at *
      generalize ((v / 64 : Nat) : Int) = vq at *
      generalize ((r / 64 : Nat) : Int) = rq at *
      generalize (v : Int) = V at *
      generalize (r : Int) = R at *
      generalize ((f / 256 : Nat) : Int) = fq at *
      by_cases hf : f % 2 = 1
      · rw [hf, show ((1 : Nat) : Int) = 1 from rfl] at a1
        by_cases hw2 : a2 + 4 ≤ X.n * 64
        · have hb := FINY.out hf hw2
          obtain ⟨_, _, _, _, e1, e2⟩ := FINV.out hb
          have G2 := Lib.hid (g2 hw2)
          unfold Told at G2
          rw [e2, e1, hb]
          clear g2 g3 FINY FINN FINV FIN e1 e2 hb hf hw2
          generalize X.wn a2 = g at *
          go_enter Try.func18, Try.ntmps18
          go_wp2_with (first
            | (go_at_call 36; refine (S1.out _).mono ?_; rintro e w' ⟨rfl, rfl⟩)
            | (go_at_call 19; refine G1.out.mono ?_; rintro e w1 ⟨rfl, m1, rfl⟩; clear G1)
            | (go_at_call 33; refine (N1.out _).mono ?_; rintro e w' ⟨rfl, rfl⟩)
            | (go_at_call 36; refine (S2.out _).mono ?_; rintro e w' ⟨rfl, rfl⟩)
            | (go_at_call 19; refine (G2.out _).mono ?_; rintro e w2 ⟨rfl, m2, rfl⟩; clear G2))
          go_ret3
          exact ⟨rfl, _, rfl⟩
        · rw [FIN.out (FINN.out (fun h => hw2 h.2))]
          have G2 := Lib.hid (g3 hw2)
          unfold Told at G2
          clear g2 g3 FINY FINN FINV FIN hf hw2
          go_enter Try.func18, Try.ntmps18
          go_wp2_with (first
            | (go_at_call 36; refine (S1.out _).mono ?_; rintro e w' ⟨rfl, rfl⟩)
            | (go_at_call 19; refine G1.out.mono ?_; rintro e w1 ⟨rfl, m1, rfl⟩; clear G1)
            | (go_at_call 33; refine (N1.out _).mono ?_; rintro e w' ⟨rfl, rfl⟩)
            | (go_at_call 36; refine (S2.out _).mono ?_; rintro e w' ⟨rfl, rfl⟩)
            | (go_at_call 19; refine (G2.out _).mono ?_; rintro e w2 ⟨rfl, m2, rfl⟩; clear G2))
          go_ret3
          exact ⟨rfl, _, rfl⟩
      · rw [FIN.out (FINN.out (fun h => hf h.1))]
        have hf0 : f % 2 = 0 := by omega
        rw [hf0, show ((0 : Nat) : Int) = 0 from rfl] at a1
        clear g2 g3 FINY FINN FINV FIN hf hf0 S2 N1
        go_enter Try.func18, Try.ntmps18
        go_wp2_with (first
          | (go_at_call 36; refine (S1.out _).mono ?_; rintro e w' ⟨rfl, rfl⟩)
          | (go_at_call 19; refine G1.out.mono ?_; rintro e w1 ⟨rfl, m1, rfl⟩; clear G1))
        go_ret3
        exact ⟨rfl, _, rfl⟩
    · rw [FIN.out (by unfold Rm.lkB; rw [decide_eq_false hw1]; simp)]
      have g1 := wordNo_any (l1 r v) b1 w hM hw1
      generalize l1 r v = a at *
      have S1 := Lib.hid s1
      have G1 := Lib.hid g1
      unfold Told at G1
      clear s1 g1 fin0 FIN b1 hM hr hv hw1 hv2
      generalize ((v / 64 % 16 : Nat) : Int) = vm at *
      generalize ((v / 1024 : Nat) : Int) = vt at *
      generalize ((v / 64 : Nat) : Int) = vq at *
      generalize ((r / 64 : Nat) : Int) = rq at *
      generalize (v : Int) = V at *
      generalize (r : Int) = R at *
      go_enter Try.func18, Try.ntmps18
      go_wp2_with (first
        | (go_at_call 36; refine (S1.out _).mono ?_; rintro e w' ⟨rfl, rfl⟩)
        | (go_at_call 19; refine G1.out.mono ?_; rintro e w1 ⟨rfl, m1, rfl⟩; clear G1))
      go_ret3
      exact ⟨rfl, _, rfl⟩
  · rw [FIN.out (by unfold Rm.lkB; rw [decide_eq_false hv2]; rfl)]
    have c5 : (16384 : Int) ≤ (v : Int) := by omega
    clear fin0 FIN hM hr hv hv2
    generalize (v : Int) = V at *
    go_enter Try.func18, Try.ntmps18
    go_wp2
    go_ret3
    exact ⟨rfl, 0, rfl⟩
end
end Go.Proofs.Ytoejpdhcibbgdaa

/-
  innkeeperref8's Look: A CONTRACT.
-/
import Derived.Test.YtoejpdhcibbgdaaWr
namespace Go.Proofs.Ytoejpdhcibbgdaa
open Go.RowKit
set_option linter.unusedSimpArgs false
set_option linter.unusedVariables false

theorem and15 (n : Nat) (h : n < 4294967296) : bits .and .u32 (n : Int) 15 = ((n % 16 : Nat) : Int) := by
  have e := u32_and_nat n 15 h (by omega)
  rw [show (15 : Nat) = 2 ^ 4 - 1 from rfl, Nat.and_two_pow_sub_one_eq_mod] at e
  exact e
section
variable {q b t : Nat} {X : Rm}
set_option maxRecDepth 100000 in
set_option maxHeartbeats 2000000 in
theorem rlook_any (r v : Nat) (hr : r < 4294967296) (hv : v < 4294967296) (w : World) (hW : IsW w q b t X) (hX : X.Ok) :
    Calls Try.prog 26 #[.pointer (some ⟨q, 0, none⟩), .int .u32 r, .int .u32 v] w (Told (.tuple #[.int .u64 (X.lkA r v : Nat), .int .u32 (X.lkE r v : Nat), .bool (X.lkB r v)]) w) := by
  have fin0 : X.lkB r v = false → (Value.tuple #[.int .u64 (X.lkA r v : Nat), .int .u32 (X.lkE r v : Nat), .bool (X.lkB r v)]) = .tuple #[.int .u64 0, .int .u32 0, .bool false] := fun h => by
    rw [(lk_no h).1, (lk_no h).2, h]; rfl
  have FIN := Lib.hid fin0
  unfold Told
  have hn := hX.n1
  have q1 : ((r : Int)).tdiv 64 = ((r / 64 : Nat) : Int) := by rw [Int.tdiv_eq_ediv_of_nonneg (by omega)]; omega
  have q2 : (v : Int) / 1024 = ((v / 1024 : Nat) : Int) := by omega
  have q3 : (v : Int) / 64 = ((v / 64 : Nat) : Int) := by omega
  have q4 := and15 (v / 1024) (by omega)
  have q5 := and15 (v / 64) (by omega)
  have d1 : (0 : Int) ≤ ((r / 64 : Nat) : Int) := by omega
  have d2 : (0 : Int) ≤ ((v / 1024 : Nat) : Int) := by omega
  have d3 : (0 : Int) ≤ ((v / 64 : Nat) : Int) := by omega
  have d4 : (0 : Int) ≤ ((v / 1024 % 16 : Nat) : Int) := by omega
  have d5 : (0 : Int) ≤ ((v / 64 % 16 : Nat) : Int) := by omega
  have c1 : ((r / 64 : Nat) : Int) < 67108864 := by omega
  have c2 : ((v / 1024 : Nat) : Int) < 4294967296 := by omega
  have c3 : ((v / 64 : Nat) : Int) < 4294967296 := by omega
  have c4 : ((v / 1024 % 16 : Nat) : Int) < 16 := by omega
  have c5 : ((v / 64 % 16 : Nat) : Int) < 16 := by omega
  have c6 : (0 : Int) ≤ (v : Int) := by omega
  have c7 : (v : Int) < 4294967296 := by omega
  have hl1 : ((l1 r v : Nat) : Int) = ((r / 64 : Nat) : Int) * 64 + 4 * ((v / 1024 % 16 : Nat) : Int) := by unfold l1; omega
  have h1 := rhas_any ((l1 r v : Nat) : Int) (by omega) (by omega) w hW hn.2
  have hd1 : decide (((l1 r v : Nat) : Int) + 4 ≤ ((X.n * 64 : Nat) : Int)) = decide (l1 r v + 4 ≤ X.n * 64) := by rw [decide_eq_decide]; omega
  rw [hd1, hl1] at h1
  by_cases hv2 : v < 16384
  · have c8 : (v : Int) < 16384 := by omega
    by_cases hw1 : l1 r v + 4 ≤ X.n * 64
    · have g1 := rword_any (l1 r v) w hW hX hw1
      rw [hl1] at g1
      rw [decide_eq_true hw1] at h1
      have f0 := (wn_eq hX _ hw1).2
      have q6 : ((X.wn (l1 r v) : Nat) : Int) / 256 = ((X.wn (l1 r v) / 256 : Nat) : Int) := by omega
      have a1 := and1 (X.wn (l1 r v)) f0
      have d6 : (0 : Int) ≤ ((X.wn (l1 r v) / 256 : Nat) : Int) := by omega
      have c9 : ((X.wn (l1 r v) / 256 : Nat) : Int) < 16777216 := by omega
      have d7 : (0 : Int) ≤ ((X.wn (l1 r v) : Nat) : Int) := by omega
      have c10 : ((X.wn (l1 r v) : Nat) : Int) < 4294967296 := by omega
      have hl2 : ((l2 (X.wn (l1 r v)) v : Nat) : Int) = ((X.wn (l1 r v) / 256 : Nat) : Int) * 64 + 4 * ((v / 64 % 16 : Nat) : Int) := by unfold l2; omega
      have h2 := fun m => rhas_any ((l2 (X.wn (l1 r v)) v : Nat) : Int) (by omega) (by omega) (w.drewN m) (hW.drewN m) hn.2
      have hd2 : decide (((l2 (X.wn (l1 r v)) v : Nat) : Int) + 4 ≤ ((X.n * 64 : Nat) : Int)) = decide (l2 (X.wn (l1 r v)) v + 4 ≤ X.n * 64) := by rw [decide_eq_decide]; omega
      rw [hd2] at h2
      have g2 := fun (h : l2 (X.wn (l1 r v)) v + 4 ≤ X.n * 64) m => rword_any _ (w.drewN m) (hW.drewN m) hX h
      have FINY := Lib.hid (fun (h1 : X.wn (l1 r v) % 2 = 1) (h2 : l2 (X.wn (l1 r v)) v + 4 ≤ X.n * 64) => (show X.lkB r v = true by unfold Rm.lkB; rw [decide_eq_true hv2, decide_eq_true hw1, decide_eq_true h1, decide_eq_true h2]; rfl))
      have FINN := Lib.hid (fun (h1 : ¬ (X.wn (l1 r v) % 2 = 1 ∧ l2 (X.wn (l1 r v)) v + 4 ≤ X.n * 64)) => (show X.lkB r v = false by
        unfold Rm.lkB; rw [decide_eq_true hv2, decide_eq_true hw1, ← Bool.decide_and, decide_eq_false h1]; rfl))
      have FINV := Lib.hid (fun (h : X.lkB r v = true) => lk_yes h)
      generalize hL : l2 (X.wn (l1 r v)) v = a2 at *
      generalize hF : X.wn (l1 r v) = f at *
      have H1 := Lib.hid h1
      have G1 := Lib.hid g1
      unfold Told at G1
      clear h1 g1 fin0 hF hL hr hv hw1 hv2 hl1 hd1 hd2 hW hX hn f0
      by_cases hf : f % 2 = 1
      · rw [hf, show ((1 : Nat) : Int) = 1 from rfl] at a1
        by_cases hw2 : a2 + 4 ≤ X.n * 64
        · have hb := FINY.out hf hw2
          obtain ⟨_, _, _, _, e1, e2⟩ := FINV.out hb
          have G2 := g2 hw2
          rw [decide_eq_true hw2] at h2
          rw [e2, e1, hb]
          rw [hl2] at G2 h2 ⊢
          have G2 := Lib.hid G2
          have H2 := Lib.hid h2
          unfold Told at G2
          clear g2 FINY FINN FINV FIN e1 e2 hb hf hw2 h2 hl2
          generalize X.wn a2 = g at *
          generalize ((v / 64 % 16 : Nat) : Int) = vs at *
          generalize ((v / 1024 % 16 : Nat) : Int) = vm at *
          generalize ((v / 1024 : Nat) : Int) = vt at *
          generalize ((v / 64 : Nat) : Int) = vq at *
          generalize ((r / 64 : Nat) : Int) = rq at *
          generalize ((f / 256 : Nat) : Int) = fq at *
          generalize (v : Int) = V at *
          generalize (r : Int) = R at *
          generalize (f : Int) = F at *
          go_enter Try.func26, Try.ntmps26
          go_wp2_with (first
            | (go_at_call 42; refine H1.out.mono ?_; rintro e w' ⟨rfl, rfl⟩; clear H1)
            | (go_at_call 43; refine G1.out.mono ?_; rintro e w1 ⟨rfl, m1, rfl⟩; clear G1)
            | (go_at_call 42; refine (H2.out _).mono ?_; rintro e w' ⟨rfl, rfl⟩; clear H2)
            | (go_at_call 43; refine (G2.out _).mono ?_; rintro e w2 ⟨rfl, m2, rfl⟩; clear G2))
          go_ret3
          exact ⟨rfl, _, rfl⟩
        · rw [FIN.out (FINN.out (fun h => hw2 h.2))]
          rw [decide_eq_false hw2, hl2] at h2
          have H2 := Lib.hid h2
          clear g2 FINY FINN FINV FIN hf hw2 h2 hl2
          generalize ((v / 64 % 16 : Nat) : Int) = vs at *
          generalize ((v / 1024 % 16 : Nat) : Int) = vm at *
          generalize ((v / 1024 : Nat) : Int) = vt at *
          generalize ((v / 64 : Nat) : Int) = vq at *
          generalize ((r / 64 : Nat) : Int) = rq at *
          generalize ((f / 256 : Nat) : Int) = fq at *
          generalize (v : Int) = V at *
          generalize (r : Int) = R at *
          generalize (f : Int) = F at *
          go_enter Try.func26, Try.ntmps26
          go_wp2_with (first
            | (go_at_call 42; refine H1.out.mono ?_; rintro e w' ⟨rfl, rfl⟩; clear H1)
            | (go_at_call 43; refine G1.out.mono ?_; rintro e w1 ⟨rfl, m1, rfl⟩; clear G1)
            | (go_at_call 42; refine (H2.out _).mono ?_; rintro e w' ⟨rfl, rfl⟩; clear H2))
          go_ret3
          exact ⟨rfl, _, rfl⟩
      · rw [FIN.out (FINN.out (fun h => hf h.1))]
        have hf0 : f % 2 = 0 := by omega
        rw [hf0, show ((0 : Nat) : Int) = 0 from rfl] at a1
        clear g2 FINY FINN FINV FIN hf hf0 h2 hl2
        generalize ((v / 64 % 16 : Nat) : Int) = vs at *
        generalize ((v / 1024 % 16 : Nat) : Int) = vm at *
        generalize ((v / 1024 : Nat) : Int) = vt at *
        generalize ((v / 64 : Nat) : Int) = vq at *
        generalize ((r / 64 : Nat) : Int) = rq at *
        generalize ((f / 256 : Nat) : Int) = fq at *
        generalize (v : Int) = V at *
        generalize (r : Int) = R at *
        generalize (f : Int) = F at *
        go_enter Try.func26, Try.ntmps26
        go_wp2_with (first
          | (go_at_call 42; refine H1.out.mono ?_; rintro e w' ⟨rfl, rfl⟩; clear H1)
          | (go_at_call 43; refine G1.out.mono ?_; rintro e w1 ⟨rfl, m1, rfl⟩; clear G1))
        go_ret3
        exact ⟨rfl, _, rfl⟩
    · rw [FIN.out (by unfold Rm.lkB; rw [decide_eq_false hw1]; simp)]
      rw [decide_eq_false hw1] at h1
      have H1 := Lib.hid h1
      clear h1 fin0 FIN hr hv hw1 hv2 hl1 hd1 hW hX hn
      generalize ((v / 64 % 16 : Nat) : Int) = vs at *
      generalize ((v / 1024 % 16 : Nat) : Int) = vm at *
      generalize ((v / 1024 : Nat) : Int) = vt at *
      generalize ((v / 64 : Nat) : Int) = vq at *
      generalize ((r / 64 : Nat) : Int) = rq at *
      generalize (v : Int) = V at *
      generalize (r : Int) = R at *
      go_enter Try.func26, Try.ntmps26
      go_wp2_with (first
        | (go_at_call 42; refine H1.out.mono ?_; rintro e w' ⟨rfl, rfl⟩; clear H1))
      go_ret3
      exact ⟨rfl, 0, rfl⟩
  · rw [FIN.out (by unfold Rm.lkB; rw [decide_eq_false hv2]; rfl)]
    have c8 : (16384 : Int) ≤ (v : Int) := by omega
    clear h1 fin0 FIN hr hv hv2 hl1 hd1 hW hX hn
    generalize ((v / 64 % 16 : Nat) : Int) = vs at *
    generalize ((v / 1024 % 16 : Nat) : Int) = vm at *
    generalize ((v / 1024 : Nat) : Int) = vt at *
    generalize ((v / 64 : Nat) : Int) = vq at *
    generalize ((r / 64 : Nat) : Int) = rq at *
    generalize (v : Int) = V at *
    generalize (r : Int) = R at *
    go_enter Try.func26, Try.ntmps26
    go_wp2
    go_ret3
    exact ⟨rfl, 0, rfl⟩
end
end Go.Proofs.Ytoejpdhcibbgdaa

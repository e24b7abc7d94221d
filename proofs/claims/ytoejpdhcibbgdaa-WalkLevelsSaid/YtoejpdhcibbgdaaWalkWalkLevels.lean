/-
  innkeeperlaw8.WalkLevels returns true: its walk.
-/
import Derived.Test.YtoejpdhcibbgdaaWz
namespace Go.Proofs.Ytoejpdhcibbgdaa
open Go.RowKit
set_option linter.unusedSimpArgs false
set_option linter.unusedVariables false

set_option maxRecDepth 100000 in
set_option maxHeartbeats 4000000 in
theorem walkLevels_walk (A0 : Option Addr) (len0 cap0 : Nat) (L0 : List Ap) (a1 a2 : Int) (w : World) (w0 : RowP w A0 len0 cap0 L0) (w1 : (Lit.int .u32 a1).wf = true) (w2 : (Lit.int .u32 a2).wf = true) :
    Calls Try.prog 6 #[.slice A0 len0 cap0, .int .u32 a1, .int .u32 a2] w fun e w' => e = .returned (.bool true) ∧ Below w.heap.size w w' := by
  obtain ⟨L, hl, hL, htb⟩ := tables_row w0
  obtain ⟨y0, y1⟩ := u32_of_wf w1
  obtain ⟨y2, y3⟩ := u32_of_wf w2
  obtain ⟨v0, rfl⟩ := Int.eq_ofNat_of_zero_le y0
  obtain ⟨r0, rfl⟩ := Int.eq_ofNat_of_zero_le y2
  have t1 : ((r0 : Int)).tmod 512 = ((r0 % 512 : Nat) : Int) := by rw [Int.tmod_eq_emod_of_nonneg (by omega)]; omega
  have t2 : ((v0 : Int)).tmod 16448 = ((v0 % 16448 : Nat) : Int) := by rw [Int.tmod_eq_emod_of_nonneg (by omega)]; omega
  have r9 : r0 % 512 < 512 := by omega
  have v9 : v0 % 16448 < 16448 := by omega
  generalize r0 % 512 = r at *
  generalize v0 % 16448 = v at *
  have q1 : ((r : Int)).tdiv 64 = ((r / 64 : Nat) : Int) := by rw [Int.tdiv_eq_ediv_of_nonneg (by omega)]; omega
  have q2 : ((v : Int)).tdiv 64 = ((v / 64 : Nat) : Int) := by rw [Int.tdiv_eq_ediv_of_nonneg (by omega)]; omega
  have q3 : ((v : Int) + 9).tmod 64 = (((v + 9) % 64 : Nat) : Int) := by rw [Int.tmod_eq_emod_of_nonneg (by omega)]; omega
  have q4 : ((v : Int)).tdiv 1024 = ((v / 1024 : Nat) : Int) := by rw [Int.tdiv_eq_ediv_of_nonneg (by omega)]; omega
  have q5 : (((v / 1024 : Nat) : Int)).tmod 16 = ((v / 1024 % 16 : Nat) : Int) := by rw [Int.tmod_eq_emod_of_nonneg (by omega)]; omega
  have HTB := Lib.hid htb
  have HL := Lib.hid (And.intro hl hL)
  have hlook := fun (p : Bl) (X : Rm) W (h : IsM W p X) => look_any r v (by omega) (by omega) W h
  have hlook2 := fun (p : Bl) (X : Rm) W (h : IsM W p X) => look_any (r / 64 * 64) (v / 64 * 64 + (v + 9) % 64) (by omega) (by omega) W h
  have hsm := fun (X : Rm) => lk_same (X := X) (r := r) (r' := r / 64 * 64) (v := v) (v' := v / 64 * 64 + (v + 9) % 64) (by omega) (by omega)
  have hw2 := fun (p : Bl) (X : Rm) W (h : IsM W p X) (hn : l1 r v + 4 ≤ X.n * 64) => wordN_any (l1 r v) (by unfold l1; omega) W h hn
  have e1 : ((l1 r v : Nat) : Int) = ((r / 64 : Nat) : Int) * 64 + ((v / 1024 % 16 : Nat) : Int) * 4 := by unfold l1; omega
  have e2 : ((r / 64 * 64 : Nat) : Int) = ((r / 64 : Nat) : Int) * 64 := by omega
  have e3 : ((v / 64 * 64 + (v + 9) % 64 : Nat) : Int) = ((v / 64 : Nat) : Int) * 64 + (((v + 9) % 64 : Nat) : Int) := by omega
  simp only [e1, e2, e3] at hlook2 hw2
  have d1 : (0 : Int) ≤ ((r / 64 : Nat) : Int) := by omega
  have d2 : (0 : Int) ≤ ((v / 64 : Nat) : Int) := by omega
  have d3 : (0 : Int) ≤ (((v + 9) % 64 : Nat) : Int) := by omega
  have d4 : (0 : Int) ≤ ((v / 1024 : Nat) : Int) := by omega
  have d5 : (0 : Int) ≤ ((v / 1024 % 16 : Nat) : Int) := by omega
  have d6 : (0 : Int) ≤ (v : Int) := by omega
  have c1 : ((r / 64 : Nat) : Int) < 8 := by omega
  have c2 : ((v / 64 : Nat) : Int) < 257 := by omega
  have c3 : (((v + 9) % 64 : Nat) : Int) < 64 := by omega
  have c4 : ((v / 1024 : Nat) : Int) < 17 := by omega
  have c5 : ((v / 1024 % 16 : Nat) : Int) < 16 := by omega
  have c6 : (v : Int) < 16448 := by omega
  have HV : Hid (v < 16384 → (v : Int) < 16384) := Lib.hid (fun h => by omega)
  have HLK := Lib.hid hlook
  have HLK2 := Lib.hid hlook2
  have HSM := Lib.hid hsm
  have HW2 := Lib.hid hw2
  have HYES := Lib.hid (fun (X : Rm) (h : X.lkB r v = true) => lk_yes h)
  have HNO := Lib.hid (fun (X : Rm) (h : X.lkB r v = false) => lk_no h)
  have HL4 := Lib.hid (fun f => l2_4 f v)
  clear hl hL htb w0 w1 w2 y0 y1 y2 y3 hlook hlook2 hsm hw2 e1 e2 e3 r9 v9
  go_enter Try.func6, Try.ntmps6
  go_wp2_with (first
    | (go_at_call 12; refine HTB.out.mono ?_; rintro e wa ⟨g, rfl, hR, hba⟩; have HA := Lib.hid hba; have HR := Lib.hid hR; clear hR hba HTB)
    | (go_at_call 11; refine (both_row HL.out.1 HL.out.2 g wa HR.out).mono ?_; rintro e wb ⟨p, q, b, t, X, rfl, hn, hP⟩; have HP := Lib.hid hP; have HN := Lib.hid hn; clear hP hn HR HL))
  have hlk := HLK.out p X wb HP.out.d.m
  have hlk2 := fun m => HLK2.out p X (wb.drewN m) (HP.out.d.m.drewN m)
  obtain ⟨s1, s2, s3⟩ := HSM.out X
  simp only [s1, s2, s3] at hlk2
  have hz := HA.out.size
  have HF := Lib.hid (HA.out.trans (HP.out.d.b.mono hz))
  have hz2 := HF.out.size
  clear s1 s2 s3 hz
  cases hB : X.lkB r v
  · obtain ⟨z1, z2⟩ := HNO.out X hB
    rw [hB, z1, z2] at hlk
    simp only [hB, z1, z2] at hlk2
    have HLKA := Lib.hid hlk
    have HLKB := Lib.hid hlk2
    unfold Told at HLKA HLKB
    clear hlk hlk2 z1 z2 hB HLK HLK2 HSM HW2 HYES HNO HL4
    generalize ((v / 1024 % 16 : Nat) : Int) = vu at *
    generalize ((v / 1024 : Nat) : Int) = vt at *
    generalize (((v + 9) % 64 : Nat) : Int) = vm at *
    generalize ((v / 64 : Nat) : Int) = vq at *
    generalize ((r / 64 : Nat) : Int) = rq at *
    generalize (v : Int) = V at *
    generalize (r : Int) = R at *
    refine HLKA.out.mono ?_
    rintro e wc ⟨rfl, m1, rfl⟩
    clear HLKA
    go_wp2_with (first
      | (go_at_call 18; refine (HLKB.out _).mono ?_; rintro e wc ⟨rfl, m2, rfl⟩; clear HLKB)
      | (go_at_call 15; refine (known8_any _).mono ?_; rintro e wk ⟨rfl, hk⟩; have HK := Lib.hid hk; clear hk))
    go_ret
    exact ⟨rfl, HF.out.trans ((Below_drewN (Below.refl _ _) _).trans (HK.out.mono hz2))⟩
  · obtain ⟨y1, y2, y3, y4, y5, y6⟩ := HYES.out X hB
    have f2 := (wn_eq HP.out.d.m.ok _ y2).2
    have hle := lkA_le HP.out.d.m.ok r v
    have hw1 := fun m => wordN_any (X.lkA r v) (by have := HN.out; omega) (wb.drewN m) (HP.out.d.m.drewN m) hle
    have hw2 := fun m => HW2.out p X (wb.drewN m) (HP.out.d.m.drewN m) y2
    have hvb := HV.out y1
    have g1 : (((X.wn (l1 r v) : Nat)) : Int).tmod 2 = 1 := by rw [Int.tmod_eq_emod_of_nonneg (by omega)]; omega
    have g2 : (((X.lkA r v : Nat)) : Int).tmod 4 = 0 := by rw [Int.tmod_eq_emod_of_nonneg (by omega), y5]; have := HL4.out (X.wn (l1 r v)); omega
    simp only [← y6] at hw1
    rw [hB] at hlk
    simp only [hB] at hlk2
    have HLKA := Lib.hid hlk
    have HLKB := Lib.hid hlk2
    have HWA := Lib.hid hw1
    have HWB := Lib.hid hw2
    unfold Told at HLKA HLKB HWA HWB
    clear hlk hlk2 hB HLK HLK2 HSM HW2 HYES HNO HL4 hw1 hw2 y1 y2 y3 y4 y5 y6 f2 hle
    generalize ((X.wn (l1 r v) : Nat) : Int) = F at *
    generalize ((X.lkA r v : Nat) : Int) = LA at *
    generalize ((X.lkE r v : Nat) : Int) = LE at *
    generalize ((v / 1024 % 16 : Nat) : Int) = vu at *
    generalize ((v / 1024 : Nat) : Int) = vt at *
    generalize (((v + 9) % 64 : Nat) : Int) = vm at *
    generalize ((v / 64 : Nat) : Int) = vq at *
    generalize ((r / 64 : Nat) : Int) = rq at *
    generalize (v : Int) = V at *
    generalize (r : Int) = R at *
    refine HLKA.out.mono ?_
    rintro e wc ⟨rfl, m1, rfl⟩
    clear HLKA
    go_wp2_with (first
      | (go_at_call 18; refine (HLKB.out _).mono ?_; rintro e wc ⟨rfl, m2, hm2⟩; rw [World.drewN_drewN] at hm2; subst hm2; clear HLKB)
      | (go_at_call 19; refine (HWA.out _).mono ?_; rintro e wc ⟨rfl, m3, hm3⟩; rw [World.drewN_drewN] at hm3; subst hm3; clear HWA)
      | (go_at_call 19; refine (HWB.out _).mono ?_; rintro e wc ⟨rfl, m4, hm4⟩; rw [World.drewN_drewN] at hm4; subst hm4; clear HWB)
      | (go_at_call 15; refine (known8_any _).mono ?_; rintro e wk ⟨rfl, hk⟩; have HK := Lib.hid hk; clear hk))
    go_ret
    exact ⟨rfl, HF.out.trans ((Below_drewN (Below.refl _ _) _).trans (HK.out.mono hz2))⟩
end Go.Proofs.Ytoejpdhcibbgdaa

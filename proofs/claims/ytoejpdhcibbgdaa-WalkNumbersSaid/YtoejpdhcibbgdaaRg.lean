/-
  ram: pageOf, placeOf, Size, has, get, Byte: A CONTRACT EACH.
-/
import Derived.Test.YtoejpdhcibbgdaaRm
import Derived.Deep.QuietTactic
namespace Go.Proofs.Ytoejpdhcibbgdaa
open Go.RowKit
set_option linter.unusedSimpArgs false
set_option linter.unusedVariables false

theorem quiet_l {P : Program} {f : FuncId} {args : Array Value} {w : World} {n : Nat} {v : Value}
    (h : Calls P f args (w.drewN n) fun e w' => e = .returned v ∧ w.drewN n = w') : Calls P f args (w.drewN n) fun e w'' => e = .returned v ∧ ∃ m, w'' = w.drewN m :=
  h.mono fun _ _ ⟨he, hm⟩ => ⟨he, n, hm.symm⟩
theorem pageOf_any (a : Nat) (ha : a < 4294967296) (w : World) :
    Calls Try.prog 46 #[.int .u32 a] w fun e w' => e = .returned (.int .i64 ((a / 64 : Nat) : Int)) ∧ w = w' := by
  have h1 : ((a : Int)).tdiv 64 = ((a / 64 : Nat) : Int) := by rw [Int.tdiv_eq_ediv_of_nonneg (by omega)]; omega
  have h2 : ((a / 64 : Nat) : Int) < 4294967296 := by omega
  have H1 := Lib.hid h1
  clear ha
  go_enter Try.func46, Try.ntmps46
  go_wp2
  go_ret
  exact ⟨rfl, rfl⟩
theorem placeOf_any (a : Nat) (ha : a < 4294967296) (w : World) :
    Calls Try.prog 48 #[.int .u32 a] w fun e w' => e = .returned (.int .i64 ((a % 64 : Nat) : Int)) ∧ w = w' := by
  clear ha
  go_enter Try.func48, Try.ntmps48
  go_wp2
  go_ret
  exact ⟨rfl, rfl⟩
section
variable {p : Bl} {X : Rm}
theorem size_any (w : World) (hM : IsM w p X) :
    Calls Try.prog 35 #[.pointer (some ⟨p.m, 0, none⟩)] w fun e w' => e = .returned (.int .u32 ((X.n * 64 : Nat) : Int)) ∧ w = w' := by
  obtain ⟨S, T, i⟩ := hM.inn
  have hpg := pages_any w i.it
  rw [i.n] at hpg
  have HP := Lib.hid hpg
  have hc := hM.c1
  have hn := hM.n1
  clear hpg i hM
  generalize X.n = n at *
  go_enter Try.func35, Try.ntmps35
  go_wp2_with (go_at_call 40; refine HP.out.mono ?_; rintro e w' ⟨rfl, rfl⟩)
  go_ret
  exact ⟨rfl, rfl⟩
set_option maxRecDepth 100000 in
theorem has_any (a n : Nat) (ha : a < 4294967296) (h1 : 1 ≤ n) (h2 : n ≤ 4) (w : World) (hM : IsM w p X) :
    Calls Try.prog 37 #[.pointer (some ⟨p.m, 0, none⟩), .int .u32 a, .int .u32 n] w fun e w' => e = .returned (.bool (decide (a + n ≤ X.n * 64))) ∧ w = w' := by
  have hn := hM.n1
  have HS := Lib.hid (size_any w hM)
  clear hM
  generalize hN : X.n * 64 = N at *
  have hN2 : N ≤ 4096 := by omega
  clear hN hn
  by_cases hlt : a < N
  · have i1 : (a : Int) < (N : Int) := by omega
    have e1 : decide (a + n ≤ N) = decide ((n : Int) ≤ (N : Int) - (a : Int)) := by
      by_cases h : a + n ≤ N
      · rw [decide_eq_true h, decide_eq_true (by omega)]
      · rw [decide_eq_false h, decide_eq_false (by omega)]
    have HE := Lib.hid e1
    clear e1 h1 h2
    go_enter Try.func37, Try.ntmps37
    go_wp2_with (go_at_call 35; refine HS.out.mono ?_; rintro e w' ⟨rfl, rfl⟩)
    go_ret
    exact ⟨ret_bool HE.out.symm, rfl⟩
  · have e1 : decide (a + n ≤ N) = false := by simp; omega
    have i1 : (N : Int) ≤ (a : Int) := by omega
    have i2 : decide ((a : Int) < (N : Int)) = false := by simp; omega
    rw [e1]
    clear e1 h1 h2
    go_enter Try.func37, Try.ntmps37
    go_wp2_with (go_at_call 35; refine HS.out.mono ?_; rintro e w' ⟨rfl, rfl⟩)
    go_ret
    exact ⟨rfl, rfl⟩
/-- Frame of an address's page -/
theorem Inn.frame {w : World} {S : Po} {T : Ta} (i : Inn w p X S T) (k : Nat) (hk : k < X.n) :
    (X.mp k = false ∧ Calls Try.prog 45 #[.pointer (some ⟨p.h, 0, none⟩), .int .i64 (k : Int)] w fun e w' => e = .returned (.tuple #[.int .i64 0, .bool false]) ∧ w = w') ∨
    (X.mp k = true ∧ ∃ f : Nat, T.fr k = f ∧ 16 ≤ f ∧ f < 256 ∧ S.own f = T.o ∧ Calls Try.prog 45 #[.pointer (some ⟨p.h, 0, none⟩), .int .i64 (k : Int)] w fun e w' => e = .returned (.tuple #[.int .i64 (f : Int), .bool true]) ∧ w = w') := by
  have hf := frame_any (k : Int) w i.it
  have hkT : k < T.n := by rw [i.n]; exact hk
  have hm := mB_nat hkT
  rw [← i.mp k hk] at hm
  unfold Ta.frV at hf
  rw [hm] at hf
  cases hb : X.mp k
  · rw [hb] at hf
    exact .inl ⟨rfl, hf⟩
  · rw [hb] at hf
    have h0 : 0 ≤ T.fr k := by have := i.mp k hk; rw [hb] at this; simpa [neB] using this.symm
    obtain ⟨q, hq, q1, q2, q3⟩ := i.j.held i.it.good k hkT h0
    rw [if_pos rfl, Int.toNat_natCast, hq] at hf
    exact .inr ⟨rfl, q, hq, q1, q2, q3, hf⟩
theorem IsM.frame {w : World} (hM : IsM w p X) (k : Nat) (hk : k < X.n) :
    ∃ f : Int, Calls Try.prog 45 #[.pointer (some ⟨p.h, 0, none⟩), .int .i64 (k : Int)] w fun e w' => e = .returned (.tuple #[.int .i64 f, .bool (X.mp k)]) ∧ w = w' := by
  obtain ⟨S, T, i⟩ := hM.inn
  rcases i.frame k hk with ⟨h, hc⟩ | ⟨h, f, _, _, _, _, hc⟩
  · exact ⟨0, by rw [h]; exact hc⟩
  · exact ⟨f, by rw [h]; exact hc⟩
/-- it tells, and turns nothing but what is drawn -/
def Told (v : Value) (w : World) (e : Ending) (w' : World) : Prop := e = .returned v ∧ ∃ m, w' = w.drewN m
theorem told_q {P : Program} {f : FuncId} {args : Array Value} {w : World} {n : Nat} {v : Value}
    (h : Calls P f args (w.drewN n) (Told v (w.drewN n))) : Calls P f args (w.drewN n) fun e w'' => e = .returned v ∧ ∃ m, w'' = w.drewN m := Calls.quiet_of h
set_option maxRecDepth 100000 in
theorem get_any (a : Nat) (w : World) (hM : IsM w p X) (ha : a < X.n * 64) :
    Calls Try.prog 38 #[.pointer (some ⟨p.m, 0, none⟩), .int .u32 a] w (Told (.int .u8 (X.b a)) w) := by
  have hn := hM.n1
  obtain ⟨S, T, i⟩ := hM.inn
  have hc0 := hM.c0
  have hc1 := hM.c1
  have hpg := fun W => pageOf_any a (by omega) W
  have hpl := fun W => placeOf_any a (by omega) W
  have hb := i.b a ha
  have HPG := Lib.hid hpg
  have HPL := Lib.hid hpl
  have hf := fun n => (i.keep (w' := w.drewN n) rfl rfl rfl).frame (a / 64) (by omega)
  unfold Told
  cases hm : X.mp (a / 64)
  · rw [hM.zero a ha hm]
    have hf1 : ∀ n, Calls Try.prog 45 #[.pointer (some ⟨p.h, 0, none⟩), .int .i64 ((a / 64 : Nat) : Int)] (w.drewN n) fun e w' => e = .returned (.tuple #[.int .i64 0, .bool false]) ∧ w.drewN n = w' := fun n => by
      rcases hf n with ⟨_, h⟩ | ⟨h, _⟩
      · exact h
      · rw [hm] at h; cases h
    have HF := Lib.hid hf1
    clear hpg hpl hf hf1 hb hm i ha hn hM
    go_enter Try.func38, Try.ntmps38
    go_wp2_with fail
    go_quiet ((first
      | (go_at_call 46; exact quiet_l (HPG.out _))
      | (go_at_call 45; exact quiet_l (HF.out _))))
    go_wp2_with fail
    go_ret
    exact ⟨rfl, _, rfl⟩
  · have hm2 := i.mp (a / 64) (by omega)
    obtain ⟨f, hff, f16, f256, hown, _⟩ : ∃ f : Nat, T.fr (a / 64) = f ∧ 16 ≤ f ∧ f < 256 ∧ S.own f = T.o ∧ True := by
      rcases hf 0 with ⟨h, _⟩ | ⟨_, f, h1, h2, h3, h4, _⟩
      · rw [hm] at h; cases h
      · exact ⟨f, h1, h2, h3, h4, trivial⟩
    have hf1 : ∀ n, Calls Try.prog 45 #[.pointer (some ⟨p.h, 0, none⟩), .int .i64 ((a / 64 : Nat) : Int)] (w.drewN n) fun e w' => e = .returned (.tuple #[.int .i64 (f : Int), .bool true]) ∧ w.drewN n = w' := fun n => by
      rcases hf n with ⟨h, _⟩ | ⟨_, q, h1, h2, h3, h4, h5⟩
      · rw [hm] at h; cases h
      · obtain rfl : f = q := by omega
        exact h5
    have hbb := bB_of (S := S) f256 (by rw [hown]; omega) (show a % 64 < 64 by omega)
    have hby := fun m n => byte_any (f : Int) ((a % 64 : Nat) : Int) ((w.drewN m).drewN n) (i.ip.below (Below_drewN (Below_drewN (Below.refl _ _) m) n))
    have hbt : S.bt (f : Int) ((a % 64 : Nat) : Int) = X.b a := by
      rw [hb]; unfold Po.bt btV
      rw [hbb, hff, if_pos rfl, if_pos (by simp [neB]), Int.toNat_natCast, Int.toNat_natCast]
    rw [hbb, hbt] at hby
    have HF := Lib.hid hf1
    generalize X.b a = x at *
    have HB := Lib.hid (show ∀ (W : World), (∃ m, w.drewN m = W) → W.cell? ⟨p.m, 0, none⟩ = some (.pointer (some ⟨p.g, 0, none⟩)) ∧ ∀ n, Calls Try.prog 47 #[.pointer (some ⟨p.g, 0, none⟩), .int .i64 (f : Int), .int .i64 ((a % 64 : Nat) : Int)] (W.drewN n) (fun e w' => e = .returned (.tuple #[.int .u8 x, .bool true]) ∧ W.drewN n = w') from fun W hW => by
      obtain ⟨m, rfl⟩ := hW
      exact ⟨hc0, hby m⟩)
    clear hpg hpl hf hf1 hb hm i ha hn hM hbb hby hbt hm2
    go_enter Try.func38, Try.ntmps38
    go_wp2_with fail
    go_quiet ((first
      | (go_at_call 46; exact quiet_l (HPG.out _))
      | (go_at_call 45; exact quiet_l (HF.out _))))
    go_wp2_with fail
    generalize hW : w.drewN _ = W
    obtain ⟨d0, HB1⟩ := HB.out W ⟨_, hW⟩
    have HB1 := Lib.hid HB1
    have HWW := Lib.hid (show ∃ m, W = w.drewN m from ⟨_, hW.symm⟩)
    clear HB hW hc0 hc1 HF HPG
    go_quiet ((first
      | (go_at_call 48; exact quiet_l (HPL.out _))
      | (go_at_call 47; exact quiet_l (HB1.out _))))
    go_wp2_with fail
    go_ret
    obtain ⟨m, rfl⟩ := HWW.out
    exact ⟨rfl, _, World.drewN_drewN _ _ _⟩
/-- what Byte tells -/
def Rm.bV (X : Rm) (a : Nat) : Int := if a < X.n * 64 then X.b a else 0
end
end Go.Proofs.Ytoejpdhcibbgdaa

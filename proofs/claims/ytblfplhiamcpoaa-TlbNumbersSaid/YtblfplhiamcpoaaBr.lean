/-
  innkeeperref10's buffer: New, Find, Drop, Flush: A CONTRACT EACH; innkeeperref8.Bits.
-/
import Derived.Test.YtblfplhiamcpoaaBi
namespace Go.Proofs.Ytblfplhiamcpoaa
open Go.RowKit
set_option linter.unusedSimpArgs false
set_option linter.unusedVariables false

theorem zeroUn : (Try.prog.info? 50).map (fun i => (i.zero, i.size)) = some (some (.agg (.pointer none :: zs16 16).toArray), 65) := by kernel_rfl
theorem buildU (w : World) : (Instr.build 50 #[(0, .pointer none)]).run Try.prog w = .ok (.agg (.pointer none :: zs16 16).toArray) w := by
  have hz := (zero_of_info zeroUn).1 w
  generalize zs16 16 = L at *
  simp [Instr.build, Sem.run_bind, hz, Value.cells, Instr.fill]
/-- what New leaves -/
def NewU (w : World) (e : Ending) (w' : World) : Prop :=
  e = .returned (.pointer (some ⟨w.heap.size, 0, none⟩)) ∧ IsE w' w.heap.size 1 (fun _ => en0) ∧ Below w.heap.size w w' ∧ w.heap.size < w'.heap.size
theorem new_isU (w : World) (t : TypeId) : IsE (w.alloc (.cells (.pointer none :: zs16 16).toArray t)) w.heap.size 1 (fun _ => en0) := isE_blk [.pointer none] (Blk.new w t _)
theorem rnew_any (w : World) : Calls Try.prog 9 #[.pointer none] w (NewU w) := by
  have HN := Lib.hid (new_isU w 50)
  have HB := Lib.hid buildU
  generalize (Value.pointer none :: zs16 16).toArray = Z at *
  go_enter Try.func9, Try.ntmps9
  go_wp2_with (refine wpList_build rfl 50 _ (by rfl) [(0, .pointer none)] (by rfl) (.agg Z) (HB.out _) ?_)
  go_ret
  exact ⟨rfl, HN.out, (Below.refl _ _).alloc (Nat.le_refl _) _, by simp⟩
/-- ref8's bits -/
def rbt (k : Int) (s : Bool) : Int := (if k = 1 then 9 else if k = 2 then 3 else if k = 3 then 5 else 1) + (if s = true then 0 else 16)
set_option maxRecDepth 100000 in
theorem rbits_any (k : Int) (s : Bool) (w : World) :
    Calls Try.prog 26 #[.int .i64 k, .bool s] w fun e w' => e = .returned (.int .u32 (rbt k s)) ∧ w = w' := by
  rcases (show k = 1 ∨ k = 2 ∨ k = 3 ∨ (k ≠ 1 ∧ k ≠ 2 ∧ k ≠ 3) by omega) with rfl | rfl | rfl | ⟨h1, h2, h3⟩
  case inr.inr.inr =>
    have e1 : (k == 1) = false := by simpa using h1
    have e2 : (k == 2) = false := by simpa using h2
    have e3 : (k == 3) = false := by simpa using h3
    cases s
    · rw [show rbt k false = 17 by unfold rbt; rw [if_neg h1, if_neg h2, if_neg h3]; rfl]
      go_enter Try.func26, Try.ntmps26
      go_wp2
      go_ret
      exact ⟨rfl, rfl⟩
    · rw [show rbt k true = 1 by unfold rbt; rw [if_neg h1, if_neg h2, if_neg h3]; rfl]
      go_enter Try.func26, Try.ntmps26
      go_wp2
      go_ret
      exact ⟨rfl, rfl⟩
  all_goals
    cases s
    all_goals
      go_enter Try.func26, Try.ntmps26
      go_wp2
      go_ret
      exact ⟨rfl, rfl⟩
section
variable {g : Nat} {S : Nat → En}
theorem nd_bad {k : Int} (h : ¬ (1 ≤ k ∧ k ≤ 3)) (s : Bool) : nd k s = 0 := (nd_zero k s).2 (by omega)
theorem nd_ok {k : Int} (h : 1 ≤ k ∧ k ≤ 3) (s : Bool) : nd k s ≠ 0 := fun e => (nd_zero k s).1 e (by omega)
set_option maxRecDepth 100000 in
set_option maxHeartbeats 2000000 in
theorem rfind_any (V k : Int) (h0 : 0 ≤ V) (h1 : V < 4294967296) (s : Bool) (w : World) (hE : IsE w g 1 S) :
    Calls Try.prog 25 #[.pointer (some ⟨g, 0, none⟩), .int .u32 V, .int .i64 k, .bool s] w (Fnd (S (sl (V / 64))) V k s w) := by
  have hj := sl_lt (V / 64)
  have c0 := hE.c0 _ hj
  have c1 := hE.c1 _ hj
  have c2 := hE.c2 _ hj
  have c3 := hE.c3 _ hj
  have hok := hE.ok (sl (V / 64))
  have hz := hE.z
  have hrb := rbits_any k s
  have hq : V.tdiv 64 = V / 64 := Int.tdiv_eq_ediv_of_nonneg h0
  have hv : V.tmod 64 = V % 64 := Int.tmod_eq_emod_of_nonneg h0
  have hm : (V / 64).tmod 16 = ((sl (V / 64) : Nat) : Int) := by rw [Int.tmod_eq_emod_of_nonneg (by omega), sl_cast]
  have hm2 : (V / 64) % 16 = ((sl (V / 64) : Nat) : Int) := by rw [sl_cast]
  unfold Fnd fV fB
  obtain ⟨n0, n1⟩ := nd_bd k s
  have hj0 : (0 : Int) ≤ ((sl (V / 64) : Nat) : Int) := by omega
  have hj1 : ((sl (V / 64) : Nat) : Int) < 16 := by omega
  have hjc : (((sl (V / 64) : Nat) : Int)).toNat = sl (V / 64) := by omega
  generalize sl (V / 64) = j at *
  unfold fA
  obtain ⟨b0, b1⟩ := hok.b
  obtain ⟨p0, p1⟩ := hok.p
  obtain ⟨m0, m1⟩ := hok.n
  generalize (S j).v = v at *
  generalize (S j).n = n at *
  generalize (S j).p = p at *
  generalize (S j).b = b at *
  clear hok hE
  have hQ0 : 0 ≤ V / 64 := by omega
  have hQ1 : V / 64 < 67108864 := by omega
  generalize V / 64 = Q at *
  have hnk : ¬ (1 ≤ k ∧ k ≤ 3) → nd k s = 0 := fun h => nd_bad h s
  have hok0 : (1 ≤ k ∧ k ≤ 3) → nd k s ≠ 0 := fun h => nd_ok h s
  have hB : 1 ≤ rbt k s ∧ rbt k s < 256 := by
    unfold rbt
    cases s <;> (split <;> (try simp) <;> (split <;> (try simp) <;> (split <;> simp)))
  have hM3 : k = 3 → bits .or .u32 (rbt k s - 1) 64 = nd k s := by
    rintro rfl
    cases s <;> decide
  have hMn : (1 ≤ k ∧ k ≤ 3) → k ≠ 3 → rbt k s - 1 = nd k s := by
    intro h h3
    rcases (show k = 1 ∨ k = 2 by omega) with rfl | rfl
    · cases s <;> decide
    · cases s <;> decide
  generalize rbt k s = B at *
  generalize nd k s = N at *
  generalize hR : (v && decide (n = Q) && decide (N ≠ 0) && decide (bits .and .u32 b N = N)) = R at *
  generalize hA : Value.tuple #[.int .u32 (if R = true then (p * 64 + V % 64) % 4294967296 else 0), .bool R] = A at *
  have HRB := Lib.hid hrb
  have hB0 := hB.1
  have hB1 := hB.2
  generalize hMM : B - 1 = M at *
  clear hrb hB
  have hno : R = false → A = .tuple #[.int .u32 0, .bool false] := fun h => by rw [← hA, h]; rfl
  have hyes : R = true → A = .tuple #[.int .u32 (p * 64 % 4294967296 + V % 64), .bool true] := fun h => by
    rw [← hA, h, if_pos rfl, show (p * 64 + V % 64) % 4294967296 = p * 64 % 4294967296 + V % 64 by omega]
  by_cases k3 : k = 3
  · have hor := hM3 k3
    clear hM3 hMn
    subst k3
    cases v
    · have e := Lib.hid (hno (by rw [← hR]; simp))
      clear hno hyes hR hA
      go_enter Try.func25, Try.ntmps25
      go_wp2_with (go_at_call 26; refine (HRB.out _).mono ?_; rintro e w' ⟨rfl, rfl⟩)
      go_ret2
      exact ⟨congrArg Ending.returned e.out.symm, (Below.refl _ _).alloc (Nat.le_refl _) _⟩
    · by_cases hn : n = Q
      · subst hn
        have hnn : (n != n) = false := by simp
        have hN0 := hok0 (by omega)
        by_cases hb : bits .and .u32 b N = N
        · have hb1 : (bits .and .u32 b N != N) = false := by rw [hb]; simp
          have e := Lib.hid (hyes (by rw [← hR]; simp [hb, hN0]))
          clear hno hyes hR hA hnk hok0 hb hN0
          go_enter Try.func25, Try.ntmps25
          go_wp2_with (go_at_call 26; refine (HRB.out _).mono ?_; rintro e w' ⟨rfl, rfl⟩)
          go_ret2
          exact ⟨congrArg Ending.returned e.out.symm, (Below.refl _ _).alloc (Nat.le_refl _) _⟩
        · have hb1 : (bits .and .u32 b N != N) = true := by simpa using hb
          have e := Lib.hid (hno (by rw [← hR]; simp [hb]))
          clear hno hyes hR hA hnk hok0 hb hN0
          go_enter Try.func25, Try.ntmps25
          go_wp2_with (go_at_call 26; refine (HRB.out _).mono ?_; rintro e w' ⟨rfl, rfl⟩)
          go_ret2
          exact ⟨congrArg Ending.returned e.out.symm, (Below.refl _ _).alloc (Nat.le_refl _) _⟩
      · have hnn : (n != Q) = true := by simpa using hn
        have e := Lib.hid (hno (by rw [← hR]; simp [hn]))
        clear hno hyes hR hA hn
        go_enter Try.func25, Try.ntmps25
        go_wp2_with (go_at_call 26; refine (HRB.out _).mono ?_; rintro e w' ⟨rfl, rfl⟩)
        go_ret2
        exact ⟨congrArg Ending.returned e.out.symm, (Below.refl _ _).alloc (Nat.le_refl _) _⟩
  · have k3b : (k == 3) = false := by simpa using k3
    clear hM3
    cases v
    · have e := Lib.hid (hno (by rw [← hR]; simp))
      clear hno hyes hR hA
      go_enter Try.func25, Try.ntmps25
      go_wp2_with (go_at_call 26; refine (HRB.out _).mono ?_; rintro e w' ⟨rfl, rfl⟩)
      go_ret2
      exact ⟨congrArg Ending.returned e.out.symm, (Below.refl _ _).alloc (Nat.le_refl _) _⟩
    · by_cases hn : n = Q
      · subst hn
        have hnn : (n != n) = false := by simp
        by_cases k1 : k < 1
        · have e := Lib.hid (hno (by rw [← hR, hnk (by omega)]; simp))
          clear hno hyes hR hA hnk hok0 hMn
          go_enter Try.func25, Try.ntmps25
          go_wp2_with (go_at_call 26; refine (HRB.out _).mono ?_; rintro e w' ⟨rfl, rfl⟩)
          go_ret2
          exact ⟨congrArg Ending.returned e.out.symm, (Below.refl _ _).alloc (Nat.le_refl _) _⟩
        by_cases k4 : k > 3
        · have e := Lib.hid (hno (by rw [← hR, hnk (by omega)]; simp))
          clear hno hyes hR hA hnk hok0 hMn
          go_enter Try.func25, Try.ntmps25
          go_wp2_with (go_at_call 26; refine (HRB.out _).mono ?_; rintro e w' ⟨rfl, rfl⟩)
          go_ret2
          exact ⟨congrArg Ending.returned e.out.symm, (Below.refl _ _).alloc (Nat.le_refl _) _⟩
        have hMN := hMn (by omega) k3
        subst hMN
        have hN0 := hok0 (by omega)
        by_cases hb : bits .and .u32 b M = M
        · have hb1 : (bits .and .u32 b M != M) = false := by rw [hb]; simp
          have e := Lib.hid (hyes (by rw [← hR]; simp [hb, hN0]))
          clear hno hyes hR hA hnk hok0 hb hN0 hMn
          go_enter Try.func25, Try.ntmps25
          go_wp2_with (go_at_call 26; refine (HRB.out _).mono ?_; rintro e w' ⟨rfl, rfl⟩)
          go_ret2
          exact ⟨congrArg Ending.returned e.out.symm, (Below.refl _ _).alloc (Nat.le_refl _) _⟩
        · have hb1 : (bits .and .u32 b M != M) = true := by simpa using hb
          have e := Lib.hid (hno (by rw [← hR]; simp [hb]))
          clear hno hyes hR hA hnk hok0 hb hN0 hMn
          go_enter Try.func25, Try.ntmps25
          go_wp2_with (go_at_call 26; refine (HRB.out _).mono ?_; rintro e w' ⟨rfl, rfl⟩)
          go_ret2
          exact ⟨congrArg Ending.returned e.out.symm, (Below.refl _ _).alloc (Nat.le_refl _) _⟩
      · have hnn : (n != Q) = true := by simpa using hn
        have e := Lib.hid (hno (by rw [← hR]; simp [hn]))
        clear hno hyes hR hA hn
        go_enter Try.func25, Try.ntmps25
        go_wp2_with (go_at_call 26; refine (HRB.out _).mono ?_; rintro e w' ⟨rfl, rfl⟩)
        go_ret2
        exact ⟨congrArg Ending.returned e.out.symm, (Below.refl _ _).alloc (Nat.le_refl _) _⟩
end
end Go.Proofs.Ytblfplhiamcpoaa

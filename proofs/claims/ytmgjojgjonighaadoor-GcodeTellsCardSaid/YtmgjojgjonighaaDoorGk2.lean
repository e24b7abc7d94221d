/-
  innkeeperbook.Within, innkeeperkeep.Op, innkeeperkeep.Instr: A CONTRACT EACH.
-/
import Derived.Test.YtmgjojgjonighaaDoorGk1
namespace Go.Proofs.YtmgjojgjonighaaDoor
open Go.RowKit
set_option linter.unusedSimpArgs false
set_option linter.unusedVariables false

/-- a number brought into lo .. hi -/
def wdV (n lo hi : Int) : Int := lo + n % (hi - lo + 1)
theorem wdV_bd (n lo hi : Int) (h : lo ≤ hi) : lo ≤ wdV n lo hi ∧ wdV n lo hi ≤ hi := by
  unfold wdV
  have h1 := Int.emod_nonneg n (show hi - lo + 1 ≠ 0 by omega)
  have h2 := Int.emod_lt_of_pos n (show 0 < hi - lo + 1 by omega)
  omega
theorem tmod_neg (n m : Int) (hm : 0 < m) (h : n.tmod m < 0) : n % m = n.tmod m + m := by
  have h1 := Int.emod_nonneg n (show m ≠ 0 by omega)
  have h2 := Int.emod_lt_of_pos n hm
  rw [Int.tmod_eq_emod] at h ⊢
  split at h <;> rename_i hc
  · omega
  · rw [if_neg hc] ; omega
theorem tmod_nonneg' (n m : Int) (hm : 0 < m) (h : ¬ n.tmod m < 0) : n % m = n.tmod m := by
  have h1 := Int.emod_nonneg n (show m ≠ 0 by omega)
  have h2 := Int.emod_lt_of_pos n hm
  rw [Int.tmod_eq_emod] at h ⊢
  split at h <;> rename_i hc
  · rw [if_pos hc]; omega
  · omega
theorem tmod_bd (n m : Int) (hm : 0 < m) : -m < n.tmod m ∧ n.tmod m < m := by
  have h1 := Int.emod_nonneg n (show m ≠ 0 by omega)
  have h2 := Int.emod_lt_of_pos n hm
  rw [Int.tmod_eq_emod]
  split <;> omega

set_option maxRecDepth 100000 in
theorem within_book (n hi : Int) (w0 : (Lit.int .i64 n).wf = true) (h0 : 0 ≤ hi) (h1 : hi ≤ 4611686018427387904) (w : World) :
    Calls Tryd.prog 26 #[.int .i64 n, .int .i64 0, .int .i64 hi] w fun e w' => e = .returned (.int .i64 (wdV n 0 hi)) ∧ w = w' := by
  obtain ⟨b0, b1⟩ := i64_of_wf w0
  obtain ⟨t0, t1⟩ := tmod_bd n (hi + 1) (by omega)
  have hz : (hi + 1 == 0) = false := by simp; omega
  have hz1 : 1 ≤ hi + 1 := by omega
  by_cases hn : n.tmod (hi + 1) < 0
  · have e := tmod_neg n (hi + 1) (by omega) hn
    have e2 : wdV n 0 hi = n.tmod (hi + 1) + hi + 1 := by unfold wdV; rw [show hi - 0 + 1 = hi + 1 by omega, e]; omega
    rw [e2]; clear e e2
    have hneg : n < 0 := by
      rcases Int.lt_or_le n 0 with h | h
      · exact h
      · have := Int.tmod_nonneg (hi + 1) h; omega
    go_enter Tryd.func26, Tryd.ntmps26
    go_wp2
    go_ret
    exact ⟨rfl, rfl⟩
  · have e := tmod_nonneg' n (hi + 1) (by omega) hn
    have e2 : wdV n 0 hi = n.tmod (hi + 1) := by unfold wdV; rw [show hi - 0 + 1 = hi + 1 by omega, e]; omega
    rw [e2]; clear e e2
    go_enter Tryd.func26, Tryd.ntmps26
    go_wp2
    go_ret
    exact ⟨rfl, rfl⟩
/-- an operation that is one -/
def opL : List Int := [1, 1, 1, 2, 3, 4, 5, 6, 7, 8, 16, 17, 18, 19, 20, 21, 22, 23, 24, 25, 32, 33, 34, 35, 36, 37, 38, 39, 40, 48, 49, 50, 51, 52, 53, 64, 65, 66, 67, 68, 0, 69]
def opV (n : Int) : Int := opL.getD ((wdV n 0 1073741824) % 42).toNat 0
theorem opL_cell (k : Nat) (h : k < 42) : (#[.int .i64 1, .int .i64 1, .int .i64 1, .int .i64 2, .int .i64 3, .int .i64 4, .int .i64 5, .int .i64 6, .int .i64 7, .int .i64 8, .int .i64 16, .int .i64 17, .int .i64 18, .int .i64 19, .int .i64 20, .int .i64 21, .int .i64 22, .int .i64 23, .int .i64 24, .int .i64 25, .int .i64 32, .int .i64 33, .int .i64 34, .int .i64 35, .int .i64 36, .int .i64 37, .int .i64 38, .int .i64 39, .int .i64 40, .int .i64 48, .int .i64 49, .int .i64 50, .int .i64 51, .int .i64 52, .int .i64 53, .int .i64 64, .int .i64 65, .int .i64 66, .int .i64 67, .int .i64 68, .int .i64 0, .int .i64 69] : Array Value)[k]? = some (.int .i64 (opL.getD k 0)) := by
  have : ∀ k : Fin 42, opL[k.val]? = some (opL.getD k.val 0) := by decide
  have h1 := this ⟨k, h⟩
  have e : (#[.int .i64 1, .int .i64 1, .int .i64 1, .int .i64 2, .int .i64 3, .int .i64 4, .int .i64 5, .int .i64 6, .int .i64 7, .int .i64 8, .int .i64 16, .int .i64 17, .int .i64 18, .int .i64 19, .int .i64 20, .int .i64 21, .int .i64 22, .int .i64 23, .int .i64 24, .int .i64 25, .int .i64 32, .int .i64 33, .int .i64 34, .int .i64 35, .int .i64 36, .int .i64 37, .int .i64 38, .int .i64 39, .int .i64 40, .int .i64 48, .int .i64 49, .int .i64 50, .int .i64 51, .int .i64 52, .int .i64 53, .int .i64 64, .int .i64 65, .int .i64 66, .int .i64 67, .int .i64 68, .int .i64 0, .int .i64 69] : Array Value) = (opL.map (Value.int .i64)).toArray := rfl
  rw [e, List.getElem?_toArray, List.getElem?_map, h1]; rfl
theorem opV_sz (n : Int) : szV (opV n) ≠ 0 := by
  have h : ∀ k : Fin 42, szV (opL.getD k.val 0) ≠ 0 := by decide
  have h1 := (wdV_bd n 0 1073741824 (by omega)).1
  exact h ⟨((wdV n 0 1073741824) % 42).toNat, by omega⟩
set_option maxRecDepth 100000 in
set_option maxHeartbeats 1000000 in
theorem op_any (n : Int) (w0 : (Lit.int .i64 n).wf = true) (w : World) :
    Calls Tryd.prog 36 #[.int .i64 n] w fun e w' => e = .returned (.int .i64 (opV n)) ∧ Below w.heap.size w w' := by
  have hw := within_book n 1073741824 w0 (by omega) (by omega)
  obtain ⟨m, hm⟩ : ∃ m : Nat, wdV n 0 1073741824 = m := ⟨(wdV n 0 1073741824).toNat, by have := (wdV_bd n 0 1073741824 (by omega)).1; omega⟩
  have hb := (wdV_bd n 0 1073741824 (by omega)).2
  have e : opV n = opL.getD (m % 42) 0 := by unfold opV; rw [hm]; congr 1
  rw [hm] at hw hb
  rw [e]; clear e hm w0
  have hcell : (w.alloc (.cells #[.int .i64 1, .int .i64 1, .int .i64 1, .int .i64 2, .int .i64 3, .int .i64 4, .int .i64 5, .int .i64 6, .int .i64 7, .int .i64 8, .int .i64 16, .int .i64 17, .int .i64 18, .int .i64 19, .int .i64 20, .int .i64 21, .int .i64 22, .int .i64 23, .int .i64 24, .int .i64 25, .int .i64 32, .int .i64 33, .int .i64 34, .int .i64 35, .int .i64 36, .int .i64 37, .int .i64 38, .int .i64 39, .int .i64 40, .int .i64 48, .int .i64 49, .int .i64 50, .int .i64 51, .int .i64 52, .int .i64 53, .int .i64 64, .int .i64 65, .int .i64 66, .int .i64 67, .int .i64 68, .int .i64 0, .int .i64 69] 3)).cell? ⟨w.heap.size, m % 42, none⟩ = some (.int .i64 (opL.getD (m % 42) 0)) := by
    rw [World.cell?_alloc_new]; exact opL_cell _ (by omega)
  generalize opL.getD (m % 42) 0 = R at *
  have HW := Lib.hid hw
  have HB := Lib.hid ((Below.refl w.heap.size w).alloc (Nat.le_refl _) (.cells #[.int .i64 1, .int .i64 1, .int .i64 1, .int .i64 2, .int .i64 3, .int .i64 4, .int .i64 5, .int .i64 6, .int .i64 7, .int .i64 8, .int .i64 16, .int .i64 17, .int .i64 18, .int .i64 19, .int .i64 20, .int .i64 21, .int .i64 22, .int .i64 23, .int .i64 24, .int .i64 25, .int .i64 32, .int .i64 33, .int .i64 34, .int .i64 35, .int .i64 36, .int .i64 37, .int .i64 38, .int .i64 39, .int .i64 40, .int .i64 48, .int .i64 49, .int .i64 50, .int .i64 51, .int .i64 52, .int .i64 53, .int .i64 64, .int .i64 65, .int .i64 66, .int .i64 67, .int .i64 68, .int .i64 0, .int .i64 69] 3))
  clear hw
  go_enter Tryd.func36, Tryd.ntmps36
  go_wp2_with fail
  generalize w.alloc (.cells #[.int .i64 1, .int .i64 1, .int .i64 1, .int .i64 2, .int .i64 3, .int .i64 4, .int .i64 5, .int .i64 6, .int .i64 7, .int .i64 8, .int .i64 16, .int .i64 17, .int .i64 18, .int .i64 19, .int .i64 20, .int .i64 21, .int .i64 22, .int .i64 23, .int .i64 24, .int .i64 25, .int .i64 32, .int .i64 33, .int .i64 34, .int .i64 35, .int .i64 36, .int .i64 37, .int .i64 38, .int .i64 39, .int .i64 40, .int .i64 48, .int .i64 49, .int .i64 50, .int .i64 51, .int .i64 52, .int .i64 53, .int .i64 64, .int .i64 65, .int .i64 66, .int .i64 67, .int .i64 68, .int .i64 0, .int .i64 69] 3) = W at *
  refine (HW.out _).mono ?_
  rintro e w' ⟨rfl, rfl⟩
  go_wp2
  go_ret
  exact ⟨rfl, HB.out⟩

/-- an instruction that is right -/
def inN (op v : Int) : Int :=
  if szV op = 2 then (if op = 66 ∨ op = 67 then v % 12 else if 32 ≤ op ∧ op ≤ 38 then (v % 40 + 240) % 256 else v % 256)
  else if szV op = 5 then (if v % 4 = 0 then v else if v % 4 = 1 then v % 256 else if v % 4 = 2 then 32768 + v % 64 else v % 4096) else 0
theorem inN_ok (op v : Int) (h : szV op ≠ 0) (v0 : 0 ≤ v) (v1 : v < 4294967296) : Ok2 (op, inN op v) := by
  unfold Ok2 okV inN
  rcases szV_cases op with hs | hs | hs | hs
  · exact absurd hs h
  · simp [hs]
  · simp only [hs]
    by_cases c1 : op = 66 ∨ op = 67
    · simp [c1]; omega
    · by_cases c2 : 32 ≤ op ∧ op ≤ 38
      · simp [c1, c2]; omega
      · simp [c1, c2]; omega
  · simp only [hs]
    by_cases c1 : v % 4 = 0
    · simp [c1]; omega
    · by_cases c2 : v % 4 = 1
      · simp [c1, c2]; omega
      · by_cases c3 : v % 4 = 2
        · simp [c1, c2, c3]; omega
        · simp [c1, c2, c3]; omega
set_option maxRecDepth 100000 in
set_option maxHeartbeats 1000000 in
theorem instr_any (n v : Int) (w0 : (Lit.int .i64 n).wf = true) (v0 : 0 ≤ v) (v1 : v < 4294967296) (w : World) :
    Calls Tryd.prog 13 #[.int .i64 n, .int .u32 v] w fun e w' => e = .returned (.agg #[.int .i64 (opV n), .int .u32 (inN (opV n) v)]) ∧ Below w.heap.size w w' := by
  have ho := op_any n w0
  have hz := opV_sz n
  generalize opV n = op at *
  have hsz := rsize_any op
  have HO := Lib.hid ho
  clear ho w0
  rcases szV_cases op with hs | hs | hs | hs
  · exact absurd hs hz
  · have e : inN op v = 0 := by simp [inN, hs]
    rw [e]; rw [hs] at hsz
    have HS := Lib.hid hsz
    clear e hs hz hsz
    go_enter Tryd.func13, Tryd.ntmps13
    go_wp2_with fail
    refine (HO.out _).mono ?_
    rintro e w1 ⟨rfl, hb1⟩
    have k0 := (Blk.new w 26 #[.int .i64 0, .int .u32 0]).below hb1 (by simp)
    have c0 := k0.cell 0
    have c1 := k0.cell 1
    have f0 := k0.frozen 0
    have f1 := k0.frozen 1
    have hz1 := k0.lt
    simp at c0 c1
    have HB1 := Lib.hid (((Below.refl w.heap.size w).alloc (Nat.le_refl _) (.cells #[.int .i64 0, .int .u32 0] 26)).trans (hb1.mono (by simp)))
    clear hb1 k0
    go_wp2_with (go_at_call 29; refine (HS.out _).mono ?_; rintro e w' ⟨rfl, rfl⟩)
    exact bodyPost_ret (v := .agg #[.int .i64 op, .int .u32 0]) (by simp [results, Tryd.results13, go_sem, c0, c1, f0, f1, hz1]) rfl ⟨rfl, ((HB1.out.setCell (Nat.le_refl _) _).setCell (Nat.le_refl _) _).alloc (by simp [World.setCell]; omega) _⟩
  · have ho : op = 1 ∨ op = 66 ∨ op = 67 ∨ (32 ≤ op ∧ op ≤ 38) := by
      unfold szV at hs; (repeat' split at hs) <;> omega
    rw [hs] at hsz
    have HS := Lib.hid hsz
    clear hs hz hsz
    rcases ho with rfl | rfl | rfl | ⟨o1, o2⟩
    · rw [show inN 1 v = v % 256 from rfl]
      go_enter Tryd.func13, Tryd.ntmps13
      go_wp2_with fail
      refine (HO.out _).mono ?_
      rintro e w1 ⟨rfl, hb1⟩
      have k0 := (Blk.new w 26 #[.int .i64 0, .int .u32 0]).below hb1 (by simp)
      have c0 := k0.cell 0
      have c1 := k0.cell 1
      have f0 := k0.frozen 0
      have f1 := k0.frozen 1
      have hz1 := k0.lt
      simp at c0 c1
      have HB1 := Lib.hid (((Below.refl w.heap.size w).alloc (Nat.le_refl _) (.cells #[.int .i64 0, .int .u32 0] 26)).trans (hb1.mono (by simp)))
      clear hb1 k0
      go_wp2_with (go_at_call 29; refine (HS.out _).mono ?_; rintro e w' ⟨rfl, rfl⟩)
      exact bodyPost_ret (v := .agg #[.int .i64 1, .int .u32 (v % 256)]) (by simp [results, Tryd.results13, go_sem, c0, c1, f0, f1, hz1]) rfl ⟨rfl, ((HB1.out.setCell (Nat.le_refl _) _).setCell (Nat.le_refl _) _).alloc (by simp [World.setCell]; omega) _⟩
    · rw [show inN 66 v = v % 12 from rfl]
      go_enter Tryd.func13, Tryd.ntmps13
      go_wp2_with fail
      refine (HO.out _).mono ?_
      rintro e w1 ⟨rfl, hb1⟩
      have k0 := (Blk.new w 26 #[.int .i64 0, .int .u32 0]).below hb1 (by simp)
      have c0 := k0.cell 0
      have c1 := k0.cell 1
      have f0 := k0.frozen 0
      have f1 := k0.frozen 1
      have hz1 := k0.lt
      simp at c0 c1
      have HB1 := Lib.hid (((Below.refl w.heap.size w).alloc (Nat.le_refl _) (.cells #[.int .i64 0, .int .u32 0] 26)).trans (hb1.mono (by simp)))
      clear hb1 k0
      go_wp2_with (go_at_call 29; refine (HS.out _).mono ?_; rintro e w' ⟨rfl, rfl⟩)
      exact bodyPost_ret (v := .agg #[.int .i64 66, .int .u32 (v % 12)]) (by simp [results, Tryd.results13, go_sem, c0, c1, f0, f1, hz1]) rfl ⟨rfl, ((HB1.out.setCell (Nat.le_refl _) _).setCell (Nat.le_refl _) _).alloc (by simp [World.setCell]; omega) _⟩
    · rw [show inN 67 v = v % 12 from rfl]
      go_enter Tryd.func13, Tryd.ntmps13
      go_wp2_with fail
      refine (HO.out _).mono ?_
      rintro e w1 ⟨rfl, hb1⟩
      have k0 := (Blk.new w 26 #[.int .i64 0, .int .u32 0]).below hb1 (by simp)
      have c0 := k0.cell 0
      have c1 := k0.cell 1
      have f0 := k0.frozen 0
      have f1 := k0.frozen 1
      have hz1 := k0.lt
      simp at c0 c1
      have HB1 := Lib.hid (((Below.refl w.heap.size w).alloc (Nat.le_refl _) (.cells #[.int .i64 0, .int .u32 0] 26)).trans (hb1.mono (by simp)))
      clear hb1 k0
      go_wp2_with (go_at_call 29; refine (HS.out _).mono ?_; rintro e w' ⟨rfl, rfl⟩)
      exact bodyPost_ret (v := .agg #[.int .i64 67, .int .u32 (v % 12)]) (by simp [results, Tryd.results13, go_sem, c0, c1, f0, f1, hz1]) rfl ⟨rfl, ((HB1.out.setCell (Nat.le_refl _) _).setCell (Nat.le_refl _) _).alloc (by simp [World.setCell]; omega) _⟩
    · have e : inN op v = (v % 40 + 240) % 256 := by
        have h1 : szV op = 2 := by unfold szV; rw [if_neg (by omega), if_pos (by omega)]
        unfold inN; rw [if_pos h1, if_neg (by omega), if_pos ⟨o1, o2⟩]
      rw [e]; clear e
      have n66 : (op == 66) = false := by simp; omega
      have n67 : (op == 67) = false := by simp; omega
      go_enter Tryd.func13, Tryd.ntmps13
      go_wp2_with fail
      refine (HO.out _).mono ?_
      rintro e w1 ⟨rfl, hb1⟩
      have k0 := (Blk.new w 26 #[.int .i64 0, .int .u32 0]).below hb1 (by simp)
      have c0 := k0.cell 0
      have c1 := k0.cell 1
      have f0 := k0.frozen 0
      have f1 := k0.frozen 1
      have hz1 := k0.lt
      simp at c0 c1
      have HB1 := Lib.hid (((Below.refl w.heap.size w).alloc (Nat.le_refl _) (.cells #[.int .i64 0, .int .u32 0] 26)).trans (hb1.mono (by simp)))
      clear hb1 k0
      go_wp2_with (go_at_call 29; refine (HS.out _).mono ?_; rintro e w' ⟨rfl, rfl⟩)
      exact bodyPost_ret (v := .agg #[.int .i64 op, .int .u32 ((v % 40 + 240) % 256)]) (by simp [results, Tryd.results13, go_sem, c0, c1, f0, f1, hz1]) rfl ⟨rfl, ((HB1.out.setCell (Nat.le_refl _) _).setCell (Nat.le_refl _) _).alloc (by simp [World.setCell]; omega) _⟩
  · have ho : op = 2 := by
      unfold szV at hs; (repeat' split at hs) <;> omega
    rw [hs] at hsz
    have HS := Lib.hid hsz
    clear hs hz hsz
    subst ho
    have hv : v % 4 = 0 ∨ v % 4 = 1 ∨ v % 4 = 2 ∨ v % 4 = 3 := by omega
    rcases hv with hv | hv | hv | hv
    · have e : inN 2 v = v := by
        have h1 : szV 2 = 5 := rfl
        unfold inN; rw [if_neg (by rw [h1]; omega), if_pos h1]; simp [hv]
      rw [e]; clear e
      go_enter Tryd.func13, Tryd.ntmps13
      go_wp2_with fail
      refine (HO.out _).mono ?_
      rintro e w1 ⟨rfl, hb1⟩
      have k0 := (Blk.new w 26 #[.int .i64 0, .int .u32 0]).below hb1 (by simp)
      have c0 := k0.cell 0
      have c1 := k0.cell 1
      have f0 := k0.frozen 0
      have f1 := k0.frozen 1
      have hz1 := k0.lt
      simp at c0 c1
      have HB1 := Lib.hid (((Below.refl w.heap.size w).alloc (Nat.le_refl _) (.cells #[.int .i64 0, .int .u32 0] 26)).trans (hb1.mono (by simp)))
      clear hb1 k0
      go_wp2_with (go_at_call 29; refine (HS.out _).mono ?_; rintro e w' ⟨rfl, rfl⟩)
      exact bodyPost_ret (v := .agg #[.int .i64 2, .int .u32 v]) (by simp [results, Tryd.results13, go_sem, c0, c1, f0, f1, hz1]) rfl ⟨rfl, (((HB1.out.setCell (Nat.le_refl _) _).setCell (Nat.le_refl _) _).alloc (by simp [World.setCell]; omega) _).alloc (by simp [World.setCell]; omega) _⟩
    · have e : inN 2 v = v % 256 := by
        have h1 : szV 2 = 5 := rfl
        unfold inN; rw [if_neg (by rw [h1]; omega), if_pos h1]; simp [hv]
      rw [e]; clear e
      go_enter Tryd.func13, Tryd.ntmps13
      go_wp2_with fail
      refine (HO.out _).mono ?_
      rintro e w1 ⟨rfl, hb1⟩
      have k0 := (Blk.new w 26 #[.int .i64 0, .int .u32 0]).below hb1 (by simp)
      have c0 := k0.cell 0
      have c1 := k0.cell 1
      have f0 := k0.frozen 0
      have f1 := k0.frozen 1
      have hz1 := k0.lt
      simp at c0 c1
      have HB1 := Lib.hid (((Below.refl w.heap.size w).alloc (Nat.le_refl _) (.cells #[.int .i64 0, .int .u32 0] 26)).trans (hb1.mono (by simp)))
      clear hb1 k0
      go_wp2_with (go_at_call 29; refine (HS.out _).mono ?_; rintro e w' ⟨rfl, rfl⟩)
      exact bodyPost_ret (v := .agg #[.int .i64 2, .int .u32 (v % 256)]) (by simp [results, Tryd.results13, go_sem, c0, c1, f0, f1, hz1]) rfl ⟨rfl, (((HB1.out.setCell (Nat.le_refl _) _).setCell (Nat.le_refl _) _).alloc (by simp [World.setCell]; omega) _).alloc (by simp [World.setCell]; omega) _⟩
    · have e : inN 2 v = 32768 + v % 64 := by
        have h1 : szV 2 = 5 := rfl
        unfold inN; rw [if_neg (by rw [h1]; omega), if_pos h1]; simp [hv]
      rw [e]; clear e
      go_enter Tryd.func13, Tryd.ntmps13
      go_wp2_with fail
      refine (HO.out _).mono ?_
      rintro e w1 ⟨rfl, hb1⟩
      have k0 := (Blk.new w 26 #[.int .i64 0, .int .u32 0]).below hb1 (by simp)
      have c0 := k0.cell 0
      have c1 := k0.cell 1
      have f0 := k0.frozen 0
      have f1 := k0.frozen 1
      have hz1 := k0.lt
      simp at c0 c1
      have HB1 := Lib.hid (((Below.refl w.heap.size w).alloc (Nat.le_refl _) (.cells #[.int .i64 0, .int .u32 0] 26)).trans (hb1.mono (by simp)))
      clear hb1 k0
      go_wp2_with (go_at_call 29; refine (HS.out _).mono ?_; rintro e w' ⟨rfl, rfl⟩)
      exact bodyPost_ret (v := .agg #[.int .i64 2, .int .u32 (32768 + v % 64)]) (by simp [results, Tryd.results13, go_sem, c0, c1, f0, f1, hz1]) rfl ⟨rfl, (((HB1.out.setCell (Nat.le_refl _) _).setCell (Nat.le_refl _) _).alloc (by simp [World.setCell]; omega) _).alloc (by simp [World.setCell]; omega) _⟩
    · have e : inN 2 v = v % 4096 := by
        have h1 : szV 2 = 5 := rfl
        unfold inN; rw [if_neg (by rw [h1]; omega), if_pos h1]; simp [hv]
      rw [e]; clear e
      go_enter Tryd.func13, Tryd.ntmps13
      go_wp2_with fail
      refine (HO.out _).mono ?_
      rintro e w1 ⟨rfl, hb1⟩
      have k0 := (Blk.new w 26 #[.int .i64 0, .int .u32 0]).below hb1 (by simp)
      have c0 := k0.cell 0
      have c1 := k0.cell 1
      have f0 := k0.frozen 0
      have f1 := k0.frozen 1
      have hz1 := k0.lt
      simp at c0 c1
      have HB1 := Lib.hid (((Below.refl w.heap.size w).alloc (Nat.le_refl _) (.cells #[.int .i64 0, .int .u32 0] 26)).trans (hb1.mono (by simp)))
      clear hb1 k0
      go_wp2_with (go_at_call 29; refine (HS.out _).mono ?_; rintro e w' ⟨rfl, rfl⟩)
      exact bodyPost_ret (v := .agg #[.int .i64 2, .int .u32 (v % 4096)]) (by simp [results, Tryd.results13, go_sem, c0, c1, f0, f1, hz1]) rfl ⟨rfl, (((HB1.out.setCell (Nat.le_refl _) _).setCell (Nat.le_refl _) _).alloc (by simp [World.setCell]; omega) _).alloc (by simp [World.setCell]; omega) _⟩
end Go.Proofs.YtmgjojgjonighaaDoor
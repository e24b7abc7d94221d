/-
  innkeeperlaw9.TlbRights returns true: its walk.
-/
import Derived.Test.YtblfplhiamcpoaaBk
import Derived.Test.YtblfplhiamcpoaaBn
namespace Go.Proofs.Ytblfplhiamcpoaa
open Go.RowKit
set_option linter.unusedSimpArgs false
set_option linter.unusedVariables false

/-- what the walk is told of Find, for one kind -/
def FdK (g : Nat) (V k A0 A1 : Int) (R0 R1 : Bool) (w0 : World) : Prop :=
  ∀ (W : World), Below w0.heap.size w0 W →
    (Calls Try.prog 13 #[.pointer (some ⟨g, 0, none⟩), .int .u32 V, .int .i64 k, .bool false] W fun r w' => r = .returned (.tuple #[.int .u32 A0, .bool R0]) ∧ Below W.heap.size W w') ∧
    (Calls Try.prog 13 #[.pointer (some ⟨g, 0, none⟩), .int .u32 V, .int .i64 k, .bool true] W fun r w' => r = .returned (.tuple #[.int .u32 A1, .bool R1]) ∧ Below W.heap.size W w')
set_option maxRecDepth 100000 in
set_option maxHeartbeats 2000000 in
theorem tlbRights_walk (a0 a1 a2 : Int) (w : World) (w0 : (Lit.int .u32 a0).wf = true) (w1 : (Lit.int .u32 a1).wf = true) (w2 : (Lit.int .u32 a2).wf = true) :
    Calls Try.prog 6 #[.int .u32 a0, .int .u32 a1, .int .u32 a2] w fun e w' => e = .returned (.bool true) ∧ Below w.heap.size w w' := by
  obtain ⟨v0, v1⟩ := u32_of_wf w0
  have hp := u32_of_wf w1
  have hb := u32_of_wf w2
  generalize a0 = V at *
  generalize a1 = p at *
  generalize a2 = b at *
  clear w0 w1 w2
  have hq : V.tdiv 64 = V / 64 := Int.tdiv_eq_ediv_of_nonneg v0
  have hv : V.tmod 64 = V % 64 := Int.tmod_eq_emod_of_nonneg v0
  have hpm : p.tmod 67108864 = p % 67108864 := Int.tmod_eq_emod_of_nonneg hp.1
  have hq0 : 0 ≤ V / 64 := by omega
  have hq1 : V / 64 < 4294967296 := by omega
  have HE := Lib.hid (And.intro hp hb)
  have hfill := fun (W : World) (S : Nat → En) (g : Nat) (hW : IsE W g 0 S) => fill_any ⟨true, V / 64, p, b⟩ ⟨hq0, hq1⟩ hp hb W hW
  have HFL := Lib.hid hfill
  unfold Lf En.ag at HFL
  have hfd : ∀ (g : Nat) (W0 : World), IsE W0 g 0 (upd (fun _ => en0) (sl (V / 64)) ⟨true, V / 64, p, b⟩) → ∀ k : Int, (k = 1 ∨ k = 2 ∨ k = 3) →
      FdK g V k (if ((bits .and .u32 b (nd0 k) == nd0 k) && (bits .and .u32 b 16 != 0)) = true then (p * 64 + V % 64) % 4294967296 else 0) (if (bits .and .u32 b (nd0 k) == nd0 k) = true then (p * 64 + V % 64) % 4294967296 else 0)
        ((bits .and .u32 b (nd0 k) == nd0 k) && (bits .and .u32 b 16 != 0)) (bits .and .u32 b (nd0 k) == nd0 k) W0 := by
    intro g W0 hW k hk W hb2
    have f0 := find_any V k v0 v1 false W (hW.below hb2)
    have f1 := find_any V k v0 v1 true W (hW.below hb2)
    unfold Fnd fV at f0 f1
    rw [upd_same] at f0 f1
    rw [fB_user (e := ⟨true, V / 64, p, b⟩) rfl rfl hb hk] at f0
    rw [fB_super (e := ⟨true, V / 64, p, b⟩) rfl rfl hk] at f1
    exact ⟨f0, f1⟩
  have hln : ∀ (g : Nat) (W : World), IsE W g 0 (upd (fun _ => en0) (sl (V / 64)) ⟨true, V / 64, p, b⟩) → Calls Try.prog 14 #[.pointer (some ⟨g, 0, none⟩)] W fun r w' => r = .returned (.int .i64 1) ∧ Below W.heap.size W w' := by
    intro g W hW
    have h := len_any W hW
    have hc := (cntE_upd (fun _ => en0) (sl (V / 64)) ⟨true, V / 64, p, b⟩ 16).1 (sl_lt _)
    rw [cntE_zero, if_neg (show ¬ ((en0).v = true) by decide), if_pos rfl] at hc
    rw [show cntE (upd (fun _ => en0) (sl (V / 64)) ⟨true, V / 64, p, b⟩) 16 = 1 by omega] at h
    exact h
  have hY : fillS (fun _ => en0) ⟨true, V / 64, p, b⟩ = upd (fun _ => en0) (sl (V / 64)) ⟨true, V / 64, p, b⟩ := if_pos rfl
  have hA1 : ((p * 64 + V % 64) % 4294967296) % 64 = V % 64 := by omega
  have hA2 : ((p * 64 + V % 64) % 4294967296) / 64 = p % 67108864 := by omega
  have hA3 : 0 ≤ (p * 64 + V % 64) % 4294967296 := by omega
  have hA4 : (p * 64 + V % 64) % 4294967296 < 4294967296 := by omega
  generalize (p * 64 + V % 64) % 4294967296 = A at *
  have hA5 : A.tmod 64 = V % 64 := by rw [Int.tmod_eq_emod_of_nonneg hA3, hA1]
  have hA6 : A.tdiv 64 = p % 67108864 := by rw [Int.tdiv_eq_ediv_of_nonneg hA3, hA2]
  generalize V % 64 = M at *
  generalize p % 67108864 = P at *
  have HFD := Lib.hid hfd
  have HLN := Lib.hid hln
  have HY := Lib.hid hY
  clear hfill hfd hln hY hp hb
  generalize upd (fun _ => en0) (sl (V / 64)) ⟨true, V / 64, p, b⟩ = S at *
  generalize hQ : V / 64 = Q at *
  clear hQ
  go_enter Try.func6, Try.ntmps6
  go_wp2_with (first
    | (go_at_call 8
       refine (new_any _).mono ?_
       rintro e w1 ⟨rfl, hE1, hB1, hz1⟩
       have HF1 := Lib.hid (HFL.out _ _ _ hE1)
       rw [HY.out] at HF1
       have HB1 := Lib.hid hB1
       clear hE1 hB1 hz1)
    | (go_at_call 12
       refine HF1.out.mono ?_
       rintro e w2 ⟨rfl, hE2, hT2⟩
       have HE2 := Lib.hid hE2
       have HB2 := Lib.hid (hT2.below (Nat.le_refl _) (Nat.le_refl _) HB1.out HB1.out.size)
       clear hE2 hT2 HF1 HB1))
  have hB16 := Lib.hid (And.intro v0 v1)
  generalize hG : w.heap.size = g at *
  have HG := Lib.hid hG
  clear hG
  go_loopw [8] (fun i wr => ∃ k : Int, 1 ≤ k ∧ k ≤ 4 ∧ i = .int .i64 k ∧ Hid (IsE wr g 0 S) ∧ Hid (Below g w wr)) (fun i _ => (4 - intOf i).toNat)
  case atStart => exact ⟨1, by omega, by omega, rfl, HE2, HB2⟩
  case round =>
    clear HE2 HB2
    obtain ⟨k, hk0, hk1, rfl, hE, hB⟩ := hrel
    have hzr := hE.out.z
    rcases (show k = 1 ∨ k = 2 ∨ k = 3 ∨ k = 4 by omega) with rfl | rfl | rfl | rfl
    · have hf := HFD.out g wr hE.out 1 (by omega) wr (Below.refl _ _)
      have hf1 := fun W hb => (HFD.out g wr hE.out 1 (by omega) W hb).2
      have hnn : nd0 1 = 8 := by decide
      rw [hnn] at hf hf1
      cases hT : (bits .and .u32 b 8 == 8)
      · rw [hT] at hf hf1
        have HF0 := Lib.hid hf.1
        have HF1 := Lib.hid hf1
        simp only [Bool.false_and, Bool.false_eq_true, if_false] at HF0 HF1
        clear hf hf1 hnn HFD HLN
        go_wp2_with (first
          | (go_at_call 13
             refine HF0.out.mono ?_
             rintro r w3 ⟨rfl, hb3⟩
             have HB3 := Lib.hid (hB.out.trans (hb3.mono (Nat.le_of_lt hzr)))
             have HE3 := Lib.hid (hE.out.below hb3)
             have HF2 := Lib.hid (HF1.out _ hb3)
             clear hb3 HF0 HF1)
          | (go_at_call 13
             refine HF2.out.mono ?_
             rintro r w4 ⟨rfl, hb4⟩
             have HB4 := Lib.hid (HB3.out.trans (hb4.mono (Nat.le_of_lt HE3.out.z)))
             have HE4 := Lib.hid (HE3.out.below hb4)
             have hz4 := HE4.out.z
             clear hb4 HF2))
        go_roundw
        case rel => exact ⟨2, by omega, by omega, by go_num, Lib.hid (HE4.out.below ((Below.refl _ _).alloc (Nat.le_refl _) _)), Lib.hid (HB4.out.alloc (by have := HB4.out.size; omega) _)⟩
        case measure => simp [intOf]
      · cases hU : (bits .and .u32 b 16 != 0)
        · rw [hT] at hf hf1
          rw [hU] at hf
          have HF0 := Lib.hid hf.1
          have HF1 := Lib.hid hf1
          simp only [Bool.and_false, Bool.and_true, Bool.true_and, Bool.false_eq_true, if_false, if_true] at HF0 HF1
          clear hf hf1 hnn HFD HLN
          go_wp2_with (first
            | (go_at_call 13
               refine HF0.out.mono ?_
               rintro r w3 ⟨rfl, hb3⟩
               have HB3 := Lib.hid (hB.out.trans (hb3.mono (Nat.le_of_lt hzr)))
               have HE3 := Lib.hid (hE.out.below hb3)
               have HF2 := Lib.hid (HF1.out _ hb3)
               clear hb3 HF0 HF1)
            | (go_at_call 13
               refine HF2.out.mono ?_
               rintro r w4 ⟨rfl, hb4⟩
               have HB4 := Lib.hid (HB3.out.trans (hb4.mono (Nat.le_of_lt HE3.out.z)))
               have HE4 := Lib.hid (HE3.out.below hb4)
               have hz4 := HE4.out.z
               clear hb4 HF2))
          go_roundw
          case rel => exact ⟨2, by omega, by omega, by go_num, Lib.hid (HE4.out.below ((Below.refl _ _).alloc (Nat.le_refl _) _)), Lib.hid (HB4.out.alloc (by have := HB4.out.size; omega) _)⟩
          case measure => simp [intOf]
        · rw [hT] at hf hf1
          rw [hU] at hf
          have HF0 := Lib.hid hf.1
          have HF1 := Lib.hid hf1
          simp only [Bool.and_false, Bool.and_true, Bool.true_and, Bool.false_eq_true, if_false, if_true] at HF0 HF1
          clear hf hf1 hnn HFD HLN
          go_wp2_with (first
            | (go_at_call 13
               refine HF0.out.mono ?_
               rintro r w3 ⟨rfl, hb3⟩
               have HB3 := Lib.hid (hB.out.trans (hb3.mono (Nat.le_of_lt hzr)))
               have HE3 := Lib.hid (hE.out.below hb3)
               have HF2 := Lib.hid (HF1.out _ hb3)
               clear hb3 HF0 HF1)
            | (go_at_call 13
               refine HF2.out.mono ?_
               rintro r w4 ⟨rfl, hb4⟩
               have HB4 := Lib.hid (HB3.out.trans (hb4.mono (Nat.le_of_lt HE3.out.z)))
               have HE4 := Lib.hid (HE3.out.below hb4)
               have hz4 := HE4.out.z
               clear hb4 HF2))
          go_roundw
          case rel => exact ⟨2, by omega, by omega, by go_num, Lib.hid (HE4.out.below ((Below.refl _ _).alloc (Nat.le_refl _) _)), Lib.hid (HB4.out.alloc (by have := HB4.out.size; omega) _)⟩
          case measure => simp [intOf]
    · have hf := HFD.out g wr hE.out 2 (by omega) wr (Below.refl _ _)
      have hf1 := fun W hb => (HFD.out g wr hE.out 2 (by omega) W hb).2
      have hnn : nd0 2 = 2 := by decide
      rw [hnn] at hf hf1
      cases hT : (bits .and .u32 b 2 == 2)
      · rw [hT] at hf hf1
        have HF0 := Lib.hid hf.1
        have HF1 := Lib.hid hf1
        simp only [Bool.false_and, Bool.false_eq_true, if_false] at HF0 HF1
        clear hf hf1 hnn HFD HLN
        go_wp2_with (first
          | (go_at_call 13
             refine HF0.out.mono ?_
             rintro r w3 ⟨rfl, hb3⟩
             have HB3 := Lib.hid (hB.out.trans (hb3.mono (Nat.le_of_lt hzr)))
             have HE3 := Lib.hid (hE.out.below hb3)
             have HF2 := Lib.hid (HF1.out _ hb3)
             clear hb3 HF0 HF1)
          | (go_at_call 13
             refine HF2.out.mono ?_
             rintro r w4 ⟨rfl, hb4⟩
             have HB4 := Lib.hid (HB3.out.trans (hb4.mono (Nat.le_of_lt HE3.out.z)))
             have HE4 := Lib.hid (HE3.out.below hb4)
             have hz4 := HE4.out.z
             clear hb4 HF2))
        go_roundw
        case rel => exact ⟨3, by omega, by omega, by go_num, Lib.hid (HE4.out.below ((Below.refl _ _).alloc (Nat.le_refl _) _)), Lib.hid (HB4.out.alloc (by have := HB4.out.size; omega) _)⟩
        case measure => simp [intOf]
      · cases hU : (bits .and .u32 b 16 != 0)
        · rw [hT] at hf hf1
          rw [hU] at hf
          have HF0 := Lib.hid hf.1
          have HF1 := Lib.hid hf1
          simp only [Bool.and_false, Bool.and_true, Bool.true_and, Bool.false_eq_true, if_false, if_true] at HF0 HF1
          clear hf hf1 hnn HFD HLN
          go_wp2_with (first
            | (go_at_call 13
               refine HF0.out.mono ?_
               rintro r w3 ⟨rfl, hb3⟩
               have HB3 := Lib.hid (hB.out.trans (hb3.mono (Nat.le_of_lt hzr)))
               have HE3 := Lib.hid (hE.out.below hb3)
               have HF2 := Lib.hid (HF1.out _ hb3)
               clear hb3 HF0 HF1)
            | (go_at_call 13
               refine HF2.out.mono ?_
               rintro r w4 ⟨rfl, hb4⟩
               have HB4 := Lib.hid (HB3.out.trans (hb4.mono (Nat.le_of_lt HE3.out.z)))
               have HE4 := Lib.hid (HE3.out.below hb4)
               have hz4 := HE4.out.z
               clear hb4 HF2))
          go_roundw
          case rel => exact ⟨3, by omega, by omega, by go_num, Lib.hid (HE4.out.below ((Below.refl _ _).alloc (Nat.le_refl _) _)), Lib.hid (HB4.out.alloc (by have := HB4.out.size; omega) _)⟩
          case measure => simp [intOf]
        · rw [hT] at hf hf1
          rw [hU] at hf
          have HF0 := Lib.hid hf.1
          have HF1 := Lib.hid hf1
          simp only [Bool.and_false, Bool.and_true, Bool.true_and, Bool.false_eq_true, if_false, if_true] at HF0 HF1
          clear hf hf1 hnn HFD HLN
          go_wp2_with (first
            | (go_at_call 13
               refine HF0.out.mono ?_
               rintro r w3 ⟨rfl, hb3⟩
               have HB3 := Lib.hid (hB.out.trans (hb3.mono (Nat.le_of_lt hzr)))
               have HE3 := Lib.hid (hE.out.below hb3)
               have HF2 := Lib.hid (HF1.out _ hb3)
               clear hb3 HF0 HF1)
            | (go_at_call 13
               refine HF2.out.mono ?_
               rintro r w4 ⟨rfl, hb4⟩
               have HB4 := Lib.hid (HB3.out.trans (hb4.mono (Nat.le_of_lt HE3.out.z)))
               have HE4 := Lib.hid (HE3.out.below hb4)
               have hz4 := HE4.out.z
               clear hb4 HF2))
          go_roundw
          case rel => exact ⟨3, by omega, by omega, by go_num, Lib.hid (HE4.out.below ((Below.refl _ _).alloc (Nat.le_refl _) _)), Lib.hid (HB4.out.alloc (by have := HB4.out.size; omega) _)⟩
          case measure => simp [intOf]
    · have hf := HFD.out g wr hE.out 3 (by omega) wr (Below.refl _ _)
      have hf1 := fun W hb => (HFD.out g wr hE.out 3 (by omega) W hb).2
      have hnn : nd0 3 = 68 := by decide
      rw [hnn] at hf hf1
      cases hT : (bits .and .u32 b 68 == 68)
      · rw [hT] at hf hf1
        have HF0 := Lib.hid hf.1
        have HF1 := Lib.hid hf1
        simp only [Bool.false_and, Bool.false_eq_true, if_false] at HF0 HF1
        clear hf hf1 hnn HFD HLN
        go_wp2_with (first
          | (go_at_call 13
             refine HF0.out.mono ?_
             rintro r w3 ⟨rfl, hb3⟩
             have HB3 := Lib.hid (hB.out.trans (hb3.mono (Nat.le_of_lt hzr)))
             have HE3 := Lib.hid (hE.out.below hb3)
             have HF2 := Lib.hid (HF1.out _ hb3)
             clear hb3 HF0 HF1)
          | (go_at_call 13
             refine HF2.out.mono ?_
             rintro r w4 ⟨rfl, hb4⟩
             have HB4 := Lib.hid (HB3.out.trans (hb4.mono (Nat.le_of_lt HE3.out.z)))
             have HE4 := Lib.hid (HE3.out.below hb4)
             have hz4 := HE4.out.z
             clear hb4 HF2))
        go_roundw
        case rel => exact ⟨4, by omega, by omega, by go_num, Lib.hid (HE4.out.below ((Below.refl _ _).alloc (Nat.le_refl _) _)), Lib.hid (HB4.out.alloc (by have := HB4.out.size; omega) _)⟩
        case measure => simp [intOf]
      · cases hU : (bits .and .u32 b 16 != 0)
        · rw [hT] at hf hf1
          rw [hU] at hf
          have HF0 := Lib.hid hf.1
          have HF1 := Lib.hid hf1
          simp only [Bool.and_false, Bool.and_true, Bool.true_and, Bool.false_eq_true, if_false, if_true] at HF0 HF1
          clear hf hf1 hnn HFD HLN
          go_wp2_with (first
            | (go_at_call 13
               refine HF0.out.mono ?_
               rintro r w3 ⟨rfl, hb3⟩
               have HB3 := Lib.hid (hB.out.trans (hb3.mono (Nat.le_of_lt hzr)))
               have HE3 := Lib.hid (hE.out.below hb3)
               have HF2 := Lib.hid (HF1.out _ hb3)
               clear hb3 HF0 HF1)
            | (go_at_call 13
               refine HF2.out.mono ?_
               rintro r w4 ⟨rfl, hb4⟩
               have HB4 := Lib.hid (HB3.out.trans (hb4.mono (Nat.le_of_lt HE3.out.z)))
               have HE4 := Lib.hid (HE3.out.below hb4)
               have hz4 := HE4.out.z
               clear hb4 HF2))
          go_roundw
          case rel => exact ⟨4, by omega, by omega, by go_num, Lib.hid (HE4.out.below ((Below.refl _ _).alloc (Nat.le_refl _) _)), Lib.hid (HB4.out.alloc (by have := HB4.out.size; omega) _)⟩
          case measure => simp [intOf]
        · rw [hT] at hf hf1
          rw [hU] at hf
          have HF0 := Lib.hid hf.1
          have HF1 := Lib.hid hf1
          simp only [Bool.and_false, Bool.and_true, Bool.true_and, Bool.false_eq_true, if_false, if_true] at HF0 HF1
          clear hf hf1 hnn HFD HLN
          go_wp2_with (first
            | (go_at_call 13
               refine HF0.out.mono ?_
               rintro r w3 ⟨rfl, hb3⟩
               have HB3 := Lib.hid (hB.out.trans (hb3.mono (Nat.le_of_lt hzr)))
               have HE3 := Lib.hid (hE.out.below hb3)
               have HF2 := Lib.hid (HF1.out _ hb3)
               clear hb3 HF0 HF1)
            | (go_at_call 13
               refine HF2.out.mono ?_
               rintro r w4 ⟨rfl, hb4⟩
               have HB4 := Lib.hid (HB3.out.trans (hb4.mono (Nat.le_of_lt HE3.out.z)))
               have HE4 := Lib.hid (HE3.out.below hb4)
               have hz4 := HE4.out.z
               clear hb4 HF2))
          go_roundw
          case rel => exact ⟨4, by omega, by omega, by go_num, Lib.hid (HE4.out.below ((Below.refl _ _).alloc (Nat.le_refl _) _)), Lib.hid (HB4.out.alloc (by have := HB4.out.size; omega) _)⟩
          case measure => simp [intOf]
    · have HKN := Lib.hid (fun W => known_any W)
      have HL := Lib.hid (HLN.out g wr hE.out)
      clear HFD HLN
      go_wp2_with (first
        | (go_at_call 14
           refine HL.out.mono ?_
           rintro r w3 ⟨rfl, hb3⟩
           have HB3 := Lib.hid (hB.out.trans (hb3.mono (Nat.le_of_lt hzr)))
           clear hb3)
        | (go_at_call 11
           refine (HKN.out _).mono ?_
           rintro r w4 ⟨rfl, hb4⟩
           have HB4 := Lib.hid (HB3.out.trans (hb4.mono (by have h9 := HB3.out.size; have h8 := HG.out; omega)))
           clear hb4))
      go_ret
      have := HG.out
      subst this
      exact ⟨rfl, HB4.out⟩
end Go.Proofs.Ytblfplhiamcpoaa

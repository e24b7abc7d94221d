/-
  innkeeperref3.Encode, Right: A CONTRACT EACH.
-/
import Derived.Test.YtaghblcboimbpaaHinf
import Derived.Test.YtaghblcboimbpaaHmd
import Derived.Deep.LoopGhost
import Derived.Deep.Light
import Derived.Outline
namespace Go.Proofs.Ytaghblcboimbpaa
open Go.RowKit
set_option linter.unusedSimpArgs false
set_option linter.unusedVariables false

/-- any number's lowest byte -/
def bym (x : Int) : UInt8 := UInt8.ofNat (x % 256).toNat
theorem bym_val (x : Int) : ((bym x).toNat : Int) = x % 256 := by
  have h0 := Int.emod_nonneg x (show (256 : Int) ≠ 0 by omega)
  have h1 := Int.emod_lt_of_pos x (show (0 : Int) < 256 by omega)
  unfold bym
  obtain ⟨m, hm⟩ := Int.eq_ofNat_of_zero_le h0
  rw [hm] at h1 ⊢
  simp; omega
theorem bym_byt (x : Int) (h : 0 ≤ x) : bym x = byt x := by
  apply UInt8.toNat_inj.1
  have a1 := bym_val x
  have a2 := byt_val x h
  omega
/-- an instruction's bytes, right or not -/
def rfV (o d a b n : Int) : List UInt8 := [bym o, bym d, bym a, bym b, bym n, bym (n / 256), bym (n / 65536), bym (n / 16777216)]
theorem rf_ok (o d a b n : Int) (h : okH o d a b n = true) (n0 : 0 ≤ n) : rfV o d a b n = ehV o d a b n := by
  obtain ⟨⟨o0, o1⟩, ⟨d0, d1⟩, ⟨a0, a1⟩, ⟨b0, b1⟩⟩ := okH_bd h
  unfold rfV ehV
  rw [bym_byt o o0, bym_byt d d0, bym_byt a a0, bym_byt b b0, bym_byt n n0, bym_byt (n / 256) (by omega), bym_byt (n / 65536) (by omega), bym_byt (n / 16777216) (by omega)]
theorem bv_rf (o d a b n : Int) (n0 : 0 ≤ n) (n1 : n < 4294967296) :
    bv (rfV o d a b n) = [.int .u8 (o % 256), .int .u8 (d % 256), .int .u8 (a % 256), .int .u8 (b % 256), .int .u8 (n % 256), .int .u8 (n / 256 % 256), .int .u8 (n / 65536 % 256), .int .u8 (n / 16777216)] := by
  simp [bv, rfV, bym_val]; omega

set_option maxRecDepth 100000 in
set_option maxHeartbeats 1000000 in
theorem rencode_any (o d a b n : Int) (n0 : 0 ≤ n) (n1 : n < 4294967296) (w : World) :
    Calls Try.prog 27 #[hv o d a b n] w fun e w' => e = .returned (.slice (some ⟨w.heap.size + 1, 0, none⟩) 8 8) ∧ w'.ownsRow w.heap.size 5 1 (.slice (some ⟨w.heap.size + 1, 0, none⟩) 8 8) 8 (bv (rfV o d a b n)) ∧ Below w.heap.size w w' := by
  have hb := bv_rf o d a b n n0 n1
  have HBV := Lib.hid hb
  clear hb
  go_enter Try.func27, Try.ntmps27
  go_wp2
  go_ret
  refine ⟨rfl, ?_, below_two _ _ _⟩
  rw [HBV.out]
  refine ⟨rfl, .inr ⟨w.heap.size + 1, 8, _, rfl, by omega, by simpa using heap_alloc_new (w.alloc (.cells #[.int .i64 o, .int .i64 d, .int .i64 a, .int .i64 b, .int .u32 n] 35)) _, by omega, by unfold maxLen; omega, rfl, rfl⟩⟩

/-- a field that is asked: in its range, and 0 where the mask leaves it out -/
def fOK (F r : Int) : Prop := (0 ≤ r ∧ r < 16) ∧ (bits .and .i64 F 1 = 0 → r = 0)
theorem fd_zero (x : Int) (h0 : 0 ≤ x) (h1 : x ≤ 19) : (bits .and .i64 (fdV x) 1 = 0 ↔ uD x = false) ∧ (bits .and .i64 (fdV x / 2) 1 = 0 ↔ uA x = false) ∧ (bits .and .i64 (fdV x / 4) 1 = 0 ↔ uB x = false) ∧ (bits .and .i64 (fdV x) 8 = 0 ↔ uN x = false) ∧ 0 ≤ fdV x := by
  have h : ∀ k : Fin 20, (bits .and .i64 (fdV (k.val : Int)) 1 = 0 ↔ uD (k.val : Int) = false) ∧ (bits .and .i64 (fdV (k.val : Int) / 2) 1 = 0 ↔ uA (k.val : Int) = false) ∧ (bits .and .i64 (fdV (k.val : Int) / 4) 1 = 0 ↔ uB (k.val : Int) = false) ∧ (bits .and .i64 (fdV (k.val : Int)) 8 = 0 ↔ uN (k.val : Int) = false) ∧ 0 ≤ fdV (k.val : Int) := by decide
  have := h ⟨x.toNat, by omega⟩
  have e : ((x.toNat : Nat) : Int) = x := by omega
  simp only [e] at this
  exact this
theorem fd_none (x : Int) (h : isO x = false) : fdV x = -1 := by
  simp only [isO, decide_eq_false_iff_not] at h
  unfold fdV; (repeat' split) <;> omega
theorem okH_ref (o d a b n : Int) : okH o d a b n = true ↔ fOK (fdV o) d ∧ fOK (fdV o / 2) a ∧ fOK (fdV o / 4) b ∧ 0 ≤ fdV o ∧ (bits .and .i64 (fdV o) 8 = 0 → n = 0) := by
  cases h : isO o
  · rw [fd_none o h]
    simp [okH, h]
  · have h' := h
    simp only [isO, decide_eq_true_eq] at h'
    obtain ⟨q1, q2, q3, q4, q5⟩ := fd_zero o h'.1 h'.2
    unfold fOK okH rg
    rw [q1, q2, q3, q4, h]
    cases uD o <;> cases uA o <;> cases uB o <;> cases uN o <;> simp <;> omega

set_option maxRecDepth 100000 in
set_option maxHeartbeats 4000000 in
theorem rright_any (o d a b n : Int) (w : World) :
    Calls Try.prog 39 #[hv o d a b n] w fun e w' => e = .returned (.bool (okH o d a b n)) ∧ Below w.heap.size w w' := by
  have hf := fields_any o
  have hok := okH_ref o d a b n
  generalize okH o d a b n = R at *
  generalize fdV o = F at *
  have HF := Lib.hid hf
  have HOK := Lib.hid hok
  clear hf hok
  go_enter Try.func39, Try.ntmps39
  go_wp2_with (go_at_call 28; refine (HF.out _).mono ?_; rintro e w' ⟨rfl, rfl⟩)
  have k0 : Blk ((w.alloc (.cells #[.int .i64 o, .int .i64 d, .int .i64 a, .int .i64 b, .int .u32 n] 35)).alloc (.cells #[.int .i64 d, .int .i64 a, .int .i64 b] 3)) w.heap.size 35 #[.int .i64 o, .int .i64 d, .int .i64 a, .int .i64 b, .int .u32 n] := (Blk.new w _ _).alloc _
  have k1 : Blk ((w.alloc (.cells #[.int .i64 o, .int .i64 d, .int .i64 a, .int .i64 b, .int .u32 n] 35)).alloc (.cells #[.int .i64 d, .int .i64 a, .int .i64 b] 3)) (w.heap.size + 1) 3 #[.int .i64 d, .int .i64 a, .int .i64 b] := by
    have := Blk.new (w.alloc (.cells #[.int .i64 o, .int .i64 d, .int .i64 a, .int .i64 b, .int .u32 n] 35)) 3 #[.int .i64 d, .int .i64 a, .int .i64 b]
    simpa using this
  have kb := below_two w (.cells #[.int .i64 o, .int .i64 d, .int .i64 a, .int .i64 b, .int .u32 n] 35) (.cells #[.int .i64 d, .int .i64 a, .int .i64 b] 3)
  generalize (w.alloc (.cells #[.int .i64 o, .int .i64 d, .int .i64 a, .int .i64 b, .int .u32 n] 35)).alloc (.cells #[.int .i64 d, .int .i64 a, .int .i64 b] 3) = W at *
  have kn := k0.cell 4
  have c1 := k1.cell 0
  have c2 := k1.cell 1
  have c3 := k1.cell 2
  simp at kn c1 c2 c3
  have KB := Lib.hid kb
  clear k0 k1 kb HF
  go_loopw [17] (fun i wr => ∃ k : Nat, k ≤ 3 ∧ i = .int .i64 k ∧ wr = W ∧ (0 < k → Hid (fOK F d)) ∧ (1 < k → Hid (fOK (F / 2) a)) ∧ (2 < k → Hid (fOK (F / 4) b))) (fun i _ => 3 - (intOf i).toNat)
  case atStart => exact ⟨0, by omega, rfl, rfl, by omega, by omega, by omega⟩
  case round =>
    obtain ⟨k, hk, rfl, rfl, g1, g2, g3⟩ := hrel
    by_cases hlt : k < 3
    · have : k = 0 ∨ k = 1 ∨ k = 2 := by omega
      rcases this with rfl | rfl | rfl
      · clear g1 g2 g3
        have hno : ¬ fOK F d → R = false := fun h => Bool.eq_false_iff.2 fun e => h (HOK.out.1 e).1
        have HNO := Lib.hid hno
        clear hno
        go_wp2
        all_goals go_light
        all_goals first
          | (refine ⟨⟨1, by omega, rfl, by trivial, fun _ => Lib.hid ?_, by omega, by omega⟩, by simp [intOf]⟩; unfold fOK; (try simp only [bne_iff_ne, bne_eq_false_iff_eq, ne_eq] at *); omega)
          | (go_ret; exact ⟨ret_bool (HNO.out (by unfold fOK; (try simp only [bne_iff_ne, bne_eq_false_iff_eq, ne_eq] at *); omega)).symm, KB.out⟩)
      · have g1' := g1 (by omega)
        clear g1 g2 g3
        have hno : ¬ fOK (F / 2) a → R = false := fun h => Bool.eq_false_iff.2 fun e => h (HOK.out.1 e).2.1
        have HNO := Lib.hid hno
        clear hno
        go_wp2
        all_goals go_light
        all_goals first
          | (refine ⟨⟨2, by omega, rfl, by trivial, fun _ => g1', fun _ => Lib.hid ?_, by omega⟩, by simp [intOf]⟩; unfold fOK; (try simp only [bne_iff_ne, bne_eq_false_iff_eq, ne_eq] at *); omega)
          | (go_ret; exact ⟨ret_bool (HNO.out (by unfold fOK; (try simp only [bne_iff_ne, bne_eq_false_iff_eq, ne_eq] at *); omega)).symm, KB.out⟩)
      · have g1' := g1 (by omega)
        have g2' := g2 (by omega)
        clear g1 g2 g3
        have hno : ¬ fOK (F / 4) b → R = false := fun h => Bool.eq_false_iff.2 fun e => h (HOK.out.1 e).2.2.1
        have HNO := Lib.hid hno
        clear hno
        go_wp2
        all_goals go_light
        all_goals first
          | (refine ⟨⟨3, by omega, rfl, by trivial, fun _ => g1', fun _ => g2', fun _ => Lib.hid ?_⟩, by simp [intOf]⟩; unfold fOK; (try simp only [bne_iff_ne, bne_eq_false_iff_eq, ne_eq] at *); omega)
          | (go_ret; exact ⟨ret_bool (HNO.out (by unfold fOK; (try simp only [bne_iff_ne, bne_eq_false_iff_eq, ne_eq] at *); omega)).symm, KB.out⟩)
    · obtain rfl : k = 3 := by omega
      have g1' := g1 (by omega)
      have g2' := g2 (by omega)
      have g3' := g3 (by omega)
      clear g1 g2 g3 c1 c2 c3
      go_wp2
      all_goals go_light
      all_goals (go_ret; refine ⟨ret_bool ?_, KB.out⟩)
      all_goals (rw [Bool.eq_iff_iff, HOK.out]; have z1 := g1'.out; have z2 := g2'.out; have z3 := g3'.out; clear HOK g1' g2' g3' KB; unfold fOK at *; (try simp only [beq_iff_eq, Bool.false_eq_true, true_iff, false_iff, beq_self_eq_true] at *); omega)
end Go.Proofs.Ytaghblcboimbpaa

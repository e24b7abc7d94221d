/-
  innkeeperlaw3.known returns true; bytes as a string: A CONTRACT EACH.
-/
import Derived.Test.YthobedekeebadaaDoorHc5
import Derived.Test.YthobedekeebadaaDoorHc6
import Derived.Laws.IdiomStrings
import Derived.Laws.BytesString
import Derived.Deep.OwnRows
namespace Go.Proofs.YthobedekeebadaaDoor
open Go.RowKit
set_option linter.unusedSimpArgs false
set_option linter.unusedVariables false

theorem conv_rd (w : World) (B : Nat) (A : Option Addr) (c : Nat) (l : List UInt8) (h : Rd w B A (bv l)) :
    (convert 28 9 (.slice A l.length c)).run Tryd.prog w = .ok (.string ⟨l.toArray⟩) w := by
  rcases List.eq_nil_or_concat l with rfl | ⟨l', b, rfl⟩
  · rcases A with _ | a
    · rw [run_convert_bytes_string w 28 9 5 none _ c Tryd.underlying28 Tryd.underlying5 Tryd.underlying9]
      rfl
    · exact run_convert_bytes_back w _ _ 5 a c [] Tryd.underlying28 Tryd.underlying5 Tryd.underlying9 (fun j hj => absurd hj (by simp))
  · obtain ⟨g, off, rfl, hg, hc⟩ := h (by simp [bv])
    refine run_convert_bytes_back w _ _ 5 _ c _ Tryd.underlying28 Tryd.underlying5 Tryd.underlying9 fun j hj => ?_
    have := hc j _ (by rw [bv, List.getElem?_map, List.getElem?_eq_getElem hj]; rfl)
    have hadd : (⟨g, off, none⟩ : Addr).add j = ⟨g, off + j, none⟩ := by unfold Addr.add; split <;> simp_all
    rw [hadd]; exact this

set_option maxRecDepth 100000 in
set_option maxHeartbeats 1000000 in
theorem known_any (w : World) :
    Calls Tryd.prog 10 #[] w fun e w' => e = .returned (.bool true) ∧ Below w.heap.size w w' := by
  have h1 := encode_any 1 3 0 0 258 (by omega) (by omega) w
  have e1 : ehV 1 3 0 0 258 = [1, 3, 0, 0, 2, 1, 0, 0] := by decide
  have e2 : okH 1 3 0 0 258 = true := by decide
  rw [e1] at h1
  simp only [e2, true_implies] at h1
  have H1 := Lib.hid h1
  have hmk := fun W => run_make_row' (P := Tryd.prog) 28 5 (.int .u8 0) 1 Tryd.underlying28 Tryd.info_u8 rfl .i64 .i64 7 (by omega) (by omega) W
  simp only [Int.cast_ofNat_Int] at hmk
  clear h1 e1 e2
  go_enter Tryd.func10, Tryd.ntmps10
  go_wp2_with (first
    | (go_at_call 12; refine H1.out.mono ?_; rintro e w1 ⟨hb1, ⟨A1, c1, rfl, ho1⟩, _⟩; have HO1 := Lib.hid ho1; have HB1 := Lib.hid hb1; have hz1 := hb1.size; clear ho1 hb1)
    | (go_at_call 20; refine (decode_len _ 7 7 (by omega) _).mono ?_
       rintro e w2 ⟨rfl, hb2⟩
       have hb3 : Below w1.heap.size w1 (w2.alloc (.cells #[.int .i64 0, .int .i64 0, .int .i64 0, .int .i64 0, .int .u32 0] 24)) := (((Below.refl _ _).alloc (Nat.le_refl _) _).trans (hb2.mono (by simp))).alloc (by have := hb2.size; simp at this; omega) _
       have hcv : (convert 28 9 (.slice A1 8 c1)).run Tryd.prog (w2.alloc (.cells #[.int .i64 0, .int .i64 0, .int .i64 0, .int .i64 0, .int .u32 0] 24)) = .ok (.string ⟨#[1, 3, 0, 0, 2, 1, 0, 0]⟩) (w2.alloc (.cells #[.int .i64 0, .int .i64 0, .int .i64 0, .int .i64 0, .int .u32 0] 24)) := conv_rd (w2.alloc (.cells #[.int .i64 0, .int .i64 0, .int .i64 0, .int .i64 0, .int .u32 0] 24)) _ A1 c1 [1, 3, 0, 0, 2, 1, 0, 0] ((Rd.of_own HO1.out).below hb3)
       have HB3 := Lib.hid hb3
       clear hb2 hb3))
  go_ret
  exact ⟨rfl, HB1.out.trans (HB3.out.mono hz1)⟩
end Go.Proofs.YthobedekeebadaaDoor

/-
  innkeeperlaw9.known returns true: A CONTRACT.
-/
import Derived.Test.YtblfplhiamcpoaaBi
namespace Go.Proofs.Ytblfplhiamcpoaa
open Go.RowKit
set_option linter.unusedSimpArgs false
set_option linter.unusedVariables false

def kE1 : En := ⟨true, 3, 9, 2⟩
def kE2 : En := ⟨true, 19, 8, 2⟩
def kS1 : Nat → En := fillS (fun _ => en0) kE1
def kS2 : Nat → En := fillS kS1 kE2
theorem kF1 : fV (kS1 (sl (197 / 64))) 197 2 true = 581 ∧ fB (kS1 (sl (197 / 64))) 197 2 true = true := by decide +kernel
theorem kF2 : fV (kS2 (sl (192 / 64))) 192 2 true = 0 ∧ fB (kS2 (sl (192 / 64))) 192 2 true = false := by decide +kernel
theorem kL : cntE kS2 16 = 1 := by decide +kernel
set_option maxRecDepth 100000 in
theorem known_any (w : World) :
    Calls Try.prog 11 #[] w fun e w' => e = .returned (.bool true) ∧ Below w.heap.size w w' := by
  have hnew := new_any w
  have HN := Lib.hid hnew
  clear hnew
  go_enter Try.func11, Try.ntmps11
  go_wp2_with (first
    | (go_at_call 8
       refine HN.out.mono ?_
       rintro e w1 ⟨rfl, hE1, hB1, hz1⟩
       have h1 := fill_any kE1 (by decide) (by decide) (by decide) w1 hE1
       have HB1 := Lib.hid hB1
       have H1 := Lib.hid h1
       unfold Lf En.ag kE1 at H1
       have HZ1 := Lib.hid hz1
       clear hE1 hB1 h1 hz1)
    | (go_at_call 12
       refine H1.out.mono ?_
       rintro e w2 ⟨rfl, hE2, hT2⟩
       have HB2 := Lib.hid (hT2.below (Nat.le_refl _) (Nat.le_refl _) HB1.out HB1.out.size)
       have h2 := find_any 197 2 (by decide) (by decide) true w2 hE2
       have HE2 := Lib.hid hE2
       unfold Fnd at h2
       have e1 := kF1
       unfold kS1 kE1 at e1
       rw [e1.1, e1.2] at h2
       have H2 := Lib.hid h2
       clear hE2 hT2 h2 e1 H1 HB1)
    | (go_at_call 13
       refine H2.out.mono ?_
       rintro e w3 ⟨rfl, hb3⟩
       have HE3 := Lib.hid (HE2.out.below hb3)
       have HB3 := Lib.hid (HB2.out.trans (hb3.mono HB2.out.size))
       have h3 := fill_any kE2 (by decide) (by decide) (by decide) w3 HE3.out
       have H3 := Lib.hid h3
       unfold Lf En.ag kE2 at H3
       clear hb3 h3 H2 HE2 HB2)
    | (go_at_call 12
       refine H3.out.mono ?_
       rintro e w4 ⟨rfl, hE4, hT4⟩
       have HB4 := Lib.hid (hT4.below (Nat.le_refl _) (Nat.le_refl _) HB3.out HB3.out.size)
       have h4 := find_any 192 2 (by decide) (by decide) true w4 hE4
       have HE4 := Lib.hid hE4
       unfold Fnd at h4
       have e1 := kF2
       unfold kS2 kS1 kE1 kE2 at e1
       rw [e1.1, e1.2] at h4
       have H4 := Lib.hid h4
       clear hE4 hT4 h4 e1 H3 HB3 HE3)
    | (go_at_call 13
       refine H4.out.mono ?_
       rintro e w5 ⟨rfl, hb5⟩
       have HE5 := Lib.hid (HE4.out.below hb5)
       have HB5 := Lib.hid (HB4.out.trans (hb5.mono HB4.out.size))
       have h5 := len_any w5 HE5.out
       have e1 := kL
       unfold kS2 kS1 kE1 kE2 at e1
       rw [e1] at h5
       have H5 := Lib.hid h5
       clear hb5 h5 H4 HE4 HB4 e1)
    | (go_at_call 14
       refine H5.out.mono ?_
       rintro e w6 ⟨rfl, hb6⟩
       have HB6 := Lib.hid (HB5.out.trans (hb6.mono HB5.out.size))
       clear hb6 H5 HE5 HB5))
  go_ret
  exact ⟨rfl, HB6.out⟩
end Go.Proofs.Ytblfplhiamcpoaa

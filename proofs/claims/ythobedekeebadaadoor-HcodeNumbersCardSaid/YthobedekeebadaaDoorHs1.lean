/-
  innkeeperlaw3.same returns true, of an instruction that is not right.
-/
import Derived.Test.YthobedekeebadaaDoorHt
import Derived.Test.YthobedekeebadaaDoorHr
import Derived.Test.YthobedekeebadaaDoorHc5
import Derived.Test.YthobedekeebadaaDoorHk
import Derived.Deep.RegionHeld3
import Derived.Deep.QuietTactic
import Derived.BigQuiet
import Derived.Outline
import Derived.Test.YthobedekeebadaaDoorClass
import Derived.Deep.RegionWith
namespace Go.Proofs.YthobedekeebadaaDoor
open Go.RowKit
set_option linter.unusedSimpArgs false
set_option linter.unusedVariables false

/-- the boxed instruction stands -/
def Kept (w : World) (o d a b n : Int) (w' : World) : Prop :=
  Box5 w.heap.size (.int .i64 o) (.int .i64 d) (.int .i64 a) (.int .i64 b) (.int .u32 n) w' ∧ w.heap.size < w'.heap.size ∧ Below w.heap.size w w'
theorem Kept.keep {w w1 w2 : World} {o d a b n : Int} (h : Kept w o d a b n w1) (hb : Below w1.heap.size w1 w2) : Kept w o d a b n w2 :=
  ⟨h.1.keep hb h.2.1, Nat.lt_of_lt_of_le h.2.1 hb.size, h.2.2.trans (hb.mono (Nat.le_of_lt h.2.1))⟩
theorem Kept.new (w : World) (o d a b n : Int) (T : TypeId) : Kept w o d a b n (w.alloc (.cells #[.int .i64 o, .int .i64 d, .int .i64 a, .int .i64 b, .int .u32 n] T)) :=
  ⟨Box5.new w _ _ _ _ _ T, by simp, (Below.refl _ _).alloc (Nat.le_refl _) _⟩
theorem Kept.drew {w w1 : World} {o d a b n : Int} (h : Kept w o d a b n w1) : Kept w o d a b n w1.drew := ⟨h.1, h.2.1, h.2.2.drew⟩

set_option maxRecDepth 100000 in
set_option maxHeartbeats 4000000 in
theorem same_not (o d a b n : Int) (hk : okH o d a b n = false) (n0 : 0 ≤ n) (n1 : n < 4294967296) (w : World) :
    Calls Tryd.prog 7 #[hv o d a b n] w fun e w' => e = .returned (.bool true) ∧ Below w.heap.size w w' := by
  have hen := encode_any o d a b n n0 n1
  have hrr := rright_any o d a b n
  have hri := right_any o d a b n
  have htx := text_not o d a b n hk
  rw [hk] at hrr hri
  simp only [hk, Bool.false_eq_true, false_implies, true_implies, true_and] at hen
  have HEN := Lib.hid hen
  have HRR := Lib.hid hrr
  have HRI := Lib.hid hri
  have HTX := Lib.hid htx
  have HB := Lib.hid (Kept.new w o d a b n 24)
  clear hen hrr hri htx hk
  go_enter Tryd.func7, Tryd.ntmps7
  go_wp2_with fail
  refine (HEN.out _).mono ?_
  rintro e w1 ⟨hb, rfl⟩
  have K1 := Lib.hid (HB.out.keep hb)
  obtain ⟨c0, c1, c2, c3, c4⟩ := K1.out.1
  clear hb
  go_wp2_with fail
  refine (HRR.out _).mono ?_
  rintro e w2 ⟨rfl, hb⟩
  have K2 := Lib.hid (K1.out.keep hb)
  clear hb c0 c1 c2 c3 c4
  go_wp2_with fail
  obtain ⟨ι, WW, hne, hS, hall⟩ := class_of (fun w' => Kept w o d a b n w') w2 K2.out
  have g0 := fun x => (hS x).1.1
  have g1 := fun x => (hS x).1.2.1
  have g2 := fun x => (hS x).1.2.2.1
  have g3 := fun x => (hS x).1.2.2.2.1
  have g4 := fun x => (hS x).1.2.2.2.2
  have HS := Lib.hid hS
  have qR : ∀ x, Calls Tryd.prog 19 #[hv o d a b n] (WW x) fun e w' => e = .returned (.bool false) ∧ ∃ y, w' = WW y := fun x =>
    (HRI.out (WW x)).mono fun e w' ⟨he, hb⟩ => ⟨he, hall _ ((hS x).keep hb)⟩
  have qT : ∀ x, Calls Tryd.prog 13 #[hv o d a b n] (WW x) fun e w' => e = .returned (.string ⟨#[63]⟩) ∧ ∃ y, w' = WW y := fun x =>
    (HTX.out (WW x)).mono fun e w' ⟨he, hb⟩ => ⟨he, hall _ ((hS x).keep hb)⟩
  have HQR := Lib.hid qR
  have HQT := Lib.hid qT
  have hst : ∃ x, w2.drew = WW x := hall _ K2.out.drew
  have HST := Lib.hid hst
  clear hS hall qR qT hst
  refine wp_region_class WW (by kernel_rfl) (by kernel_rfl) HST.out ?_
  repeat quiet_step ((first | (go_at_call 19; exact HQR.out _) | (go_at_call 13; exact HQT.out _)))
  refine wpQuiet_nil ?_
  rintro _ ⟨x, rfl⟩
  have hx := Lib.hid (HS.out x).2.2
  clear g0 g1 g2 g3 g4 HQR HQT HST HS hne
  generalize WW x = w3 at *
  go_wp2_with fail
  go_ret
  exact ⟨rfl, hx.out⟩
end Go.Proofs.YthobedekeebadaaDoor

/-
  innkeeperlaw5.do, of kinds 1 (Promise), 4 (Drop): A CONTRACT EACH.
-/
import Derived.Test.YtjjcbkmdmdkgiaaPk
import Derived.Test.YtjjcbkmdmdkgiaaRowK
import Derived.Deep.RegionHeld3
import Derived.Deep.QuietTactic
import Derived.BigQuiet
import Derived.Deep.Light
import Derived.Outline
namespace Go.Proofs.Ytjjcbkmdmdkgiaa
open Go.RowKit
set_option linter.unusedSimpArgs false
set_option linter.unusedVariables false

/-- a call's value -/
abbrev askV (k o n : Int) (A : Option Addr) (len cap : Nat) (b : Int) : Value := .agg #[.int .i64 k, .int .i64 o, .int .i64 n, .slice A len cap, .int .u8 b]
abbrev askC (k o n : Int) (A : Option Addr) (len cap : Nat) (b : Int) : Array Value := #[.int .i64 k, .int .i64 o, .int .i64 n, .slice A len cap, .int .u8 b]
/-- what do leaves: true, both pools the same -/
def Did (g h : Nat) (w : World) (e : Ending) (w' : World) : Prop :=
  e = .returned (.bool true) ∧ (∃ S' : Po, IsP w' g S' ∧ IsR w' h S') ∧ Turn g h w w'
/-- what a region keeps of two cells of a box -/
theorem box_keep {X g h : Nat} {x y : Value} {i j : Nat} {w0 w1 w2 : World} (hX : X < w0.heap.size) (h1 : X ≠ g) (h2 : X ≠ h) (hs : w1.cell? ⟨X, i, none⟩ = some x ∧ w1.cell? ⟨X, j, none⟩ = some y ∧ Turn g h w0 w1) (t : Turn g h w1 w2) :
    w2.cell? ⟨X, i, none⟩ = some x ∧ w2.cell? ⟨X, j, none⟩ = some y ∧ Turn g h w0 w2 :=
  ⟨(t.cell (p := ⟨X, i, none⟩) (Nat.lt_of_lt_of_le hX hs.2.2.size) h1 h2).trans hs.1, (t.cell (p := ⟨X, j, none⟩) (Nat.lt_of_lt_of_le hX hs.2.2.size) h1 h2).trans hs.2.1, hs.2.2.trans t⟩
section
variable {g h : Nat} {S : Po}
set_option maxRecDepth 100000 in
set_option maxHeartbeats 2000000 in
theorem do_1 (o n : Int) (A : Option Addr) (len cap : Nat) (b : Int) (w : World) (hgh : g ≠ h) (hP : IsP w g S) (hR : IsR w h S) :
    Calls Try.prog 9 #[.pointer (some ⟨g, 0, none⟩), .pointer (some ⟨h, 0, none⟩), askV 1 o n A len cap b] w (Did g h w) := by
  have hn : ∀ i, (w.alloc (.cells (askC 1 o n A len cap b) 30)).cell? ⟨w.heap.size, i, none⟩ = (askC 1 o n A len cap b)[i]? := fun i => World.cell?_alloc_new _ _ _ _
  have c1 := hn 1
  have c2 := hn 2
  simp only [List.getElem?_toArray, List.getElem?_cons_zero, List.getElem?_cons_succ] at c1 c2
  have hB0 := (Below.refl w.heap.size w).alloc (Nat.le_refl _) (.cells (askC 1 o n A len cap b) 30)
  have hg := hP.z
  have hh := hR.z
  have hXs : w.heap.size < (w.alloc (.cells (askC 1 o n A len cap b) 30)).heap.size := by simp
  have HT0 := Lib.hid ((Turn.refl g h w).trans (Turn.of_below hB0))
  have HP0 := Lib.hid ((hP.below hB0).below ((Below.refl _ _).drew))
  have HR0 := Lib.hid ((hR.below hB0).below ((Below.refl _ _).drew))
  clear hn hB0 hP hR
  have hXg : w.heap.size ≠ g := by omega
  have hXh : w.heap.size ≠ h := by omega
  go_enter Try.func9, Try.ntmps9
  go_wp2_with fail
  generalize w.alloc (.cells (askC 1 o n A len cap b) 30) = W at *
  generalize w.heap.size = X at *
  go_region_held3 (fun w' => w'.cell? ⟨X, 1, none⟩ = some (.int .i64 o) ∧ w'.cell? ⟨X, 2, none⟩ = some (.int .i64 n) ∧ Turn g h W w')
    (first | exact ⟨c1, c2, (Turn.refl _ _ _).drew⟩ | assumption | (refine box_keep hXs hXg hXh ?_ htp.wide; assumption) | (refine box_keep hXs hXg hXh ?_ htr.wide'; assumption))
    (first
      | (go_at_call 13; refine (promise_any o n _ HP0.out).mono ?_; rintro e wp ⟨rfl, hpp, htp⟩)
      | (go_at_call 23; refine (rpromised_any o n _ (HR0.out.turn htp (Ne.symm hgh) (Ne.symm hgh))).mono ?_; rintro e wr ⟨rfl, hrr, htr⟩))
  have HF := Lib.hid (And.intro (hpp.turn htr hgh hgh) hrr)
  have HT := Lib.hid (show Turn g h W wr by go_split_ands; assumption)
  go_split_ands
  clear hpp hrr htp htr
  go_wp2_with fail
  go_ret
  exact ⟨rfl, ⟨_, HF.out.1, HF.out.2⟩, HT0.out.trans HT.out⟩
set_option maxRecDepth 100000 in
set_option maxHeartbeats 2000000 in
theorem do_4 (o n : Int) (A : Option Addr) (len cap : Nat) (b : Int) (w : World) (hgh : g ≠ h) (hP : IsP w g S) (hR : IsR w h S) :
    Calls Try.prog 9 #[.pointer (some ⟨g, 0, none⟩), .pointer (some ⟨h, 0, none⟩), askV 4 o n A len cap b] w (Did g h w) := by
  have hn : ∀ i, (w.alloc (.cells (askC 4 o n A len cap b) 30)).cell? ⟨w.heap.size, i, none⟩ = (askC 4 o n A len cap b)[i]? := fun i => World.cell?_alloc_new _ _ _ _
  have c1 := hn 1
  have c2 := hn 2
  simp only [List.getElem?_toArray, List.getElem?_cons_zero, List.getElem?_cons_succ] at c1 c2
  have hB0 := (Below.refl w.heap.size w).alloc (Nat.le_refl _) (.cells (askC 4 o n A len cap b) 30)
  have hg := hP.z
  have hh := hR.z
  have hXs : w.heap.size < (w.alloc (.cells (askC 4 o n A len cap b) 30)).heap.size := by simp
  have HT0 := Lib.hid ((Turn.refl g h w).trans (Turn.of_below hB0))
  have HP0 := Lib.hid ((hP.below hB0).below ((Below.refl _ _).drew))
  have HR0 := Lib.hid ((hR.below hB0).below ((Below.refl _ _).drew))
  clear hn hB0 hP hR
  have hXg : w.heap.size ≠ g := by omega
  have hXh : w.heap.size ≠ h := by omega
  go_enter Try.func9, Try.ntmps9
  go_wp2_with fail
  generalize w.alloc (.cells (askC 4 o n A len cap b) 30) = W at *
  generalize w.heap.size = X at *
  go_region_held3 (fun w' => w'.cell? ⟨X, 1, none⟩ = some (.int .i64 o) ∧ w'.cell? ⟨X, 2, none⟩ = some (.int .i64 n) ∧ Turn g h W w')
    (first | exact ⟨c1, c2, (Turn.refl _ _ _).drew⟩ | assumption | (refine box_keep hXs hXg hXh ?_ htp.wide; assumption) | (refine box_keep hXs hXg hXh ?_ htr.wide'; assumption))
    (first
      | (go_at_call 16; refine (drop_any o _ HP0.out).mono ?_; rintro e wp ⟨rfl, hpp, htp⟩)
      | (go_at_call 26; refine (rdrop_any o _ (HR0.out.turn htp (Ne.symm hgh) (Ne.symm hgh))).mono ?_; rintro e wr ⟨rfl, hrr, htr⟩))
  have HF := Lib.hid (And.intro (hpp.turn htr hgh hgh) hrr)
  have HT := Lib.hid (show Turn g h W wr by go_split_ands; assumption)
  go_split_ands
  clear hpp hrr htp htr
  go_wp2_with fail
  go_ret
  exact ⟨rfl, ⟨_, HF.out.1, HF.out.2⟩, HT0.out.trans HT.out⟩
end
end Go.Proofs.Ytjjcbkmdmdkgiaa

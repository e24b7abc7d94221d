/-
  innkeeperlaw5.do, of kind 3 (Give): A CONTRACT.
-/
import Derived.Test.YtjjcbkmdmdkgiaaPd2
namespace Go.Proofs.Ytjjcbkmdmdkgiaa
open Go.RowKit
set_option linter.unusedSimpArgs false
set_option linter.unusedVariables false

theorem slice_20 (A : Option Addr) (len cap : Nat) (hl : 20 < len) (h : len ≤ cap) (hc : cap ≤ 9223372036854775807) (hA : A = none → cap = 0) (w : World) :
    (Instr.sliceAt 28 (.slice A len cap) none (some (.int .i64 20)) none).run Try.prog w = .ok (.slice A 20 cap) w := by
  rcases A with _ | a
  · have := hA rfl; omega
  · have h1 : (20 : Int) ≤ (cap : Int) := by omega
    clear hA hl
    go_simp
theorem rdx_other {w w' : World} {g h : Nat} {A : Option Addr} {xs : List Value} (x : Rdx w g A xs) (y : Rdx w h A xs) (t : Turn g g w w') : Rdx w' h A xs := fun hn => by
  obtain ⟨b, off, e, h1, h2, h3⟩ := x hn
  obtain ⟨b', off', e', h1', h2', h3'⟩ := y hn
  rw [e] at e'
  simp only [Option.some.injEq, Addr.mk.injEq] at e'
  obtain ⟨rfl, rfl, _⟩ := e'
  exact ⟨b, off, e, h1', Nat.lt_of_lt_of_le h2 t.size, fun j u hu => (t.cell (p := ⟨b, off + j, none⟩) h2 h1 h1).trans (h3 j u hu)⟩
section
variable {g h : Nat} {S : Po}
set_option maxRecDepth 100000 in
set_option maxHeartbeats 2000000 in
theorem do_3 (o n : Int) (A : Option Addr) (len cap : Nat) (b : Int) (L : List Int) (hl : len = L.length) (hlc : len ≤ cap) (hc : cap ≤ maxLen) (hA : A = none → cap = 0) (w : World) (hgh : g ≠ h) (hP : IsP w g S) (hR : IsR w h S) (hrg : Rdx w g A (iv L)) (hrh : Rdx w h A (iv L)) :
    Calls Try.prog 9 #[.pointer (some ⟨g, 0, none⟩), .pointer (some ⟨h, 0, none⟩), askV 3 o n A len cap b] w (Did g h w) := by
  have hn : ∀ i, (w.alloc (.cells (askC 3 o n A len cap b) 30)).cell? ⟨w.heap.size, i, none⟩ = (askC 3 o n A len cap b)[i]? := fun i => World.cell?_alloc_new _ _ _ _
  have c1 := hn 1
  have c3 := hn 3
  simp only [List.getElem?_toArray, List.getElem?_cons_zero, List.getElem?_cons_succ] at c1 c3
  have hB0 := (Below.refl w.heap.size w).alloc (Nat.le_refl _) (.cells (askC 3 o n A len cap b) 30)
  have hg := hP.z
  have hh := hR.z
  have hXs : w.heap.size < (w.alloc (.cells (askC 3 o n A len cap b) 30)).heap.size := by simp
  have HT0 := Lib.hid ((Turn.refl g h w).trans (Turn.of_below hB0))
  have HP0 := Lib.hid ((hP.below hB0).below ((Below.refl _ _).drew))
  have HR0 := Lib.hid ((hR.below hB0).below ((Below.refl _ _).drew))
  have HRG := Lib.hid ((hrg.below hB0).below ((Below.refl _ _).drew))
  have HRH := Lib.hid ((hrh.below hB0).below ((Below.refl _ _).drew))
  have hXg : w.heap.size ≠ g := by omega
  have hXh : w.heap.size ≠ h := by omega
  have hslice := fun (h20 : 20 < len) => slice_20 A len cap h20 hlc (by unfold maxLen at hc; omega) hA
  unfold maxLen at hc
  clear hn hB0 hP hR hrg hrh hA
  -- what is given
  obtain ⟨m, M, hm, hmM, HGM, HHM⟩ : ∃ (m : Nat) (M : List Int), m = (if 20 < len then 20 else len) ∧ (m = M.length ∧ m ≤ 1000) ∧ Hid (Rdx (w.alloc (.cells (askC 3 o n A len cap b) 30)).drew g A (iv M)) ∧ Hid (Rdx (w.alloc (.cells (askC 3 o n A len cap b) 30)).drew h A (iv M)) := by
    have cut : ∀ (W : World) (x k : Nat), Rdx W x A (iv L) → Rdx W x A (iv (L.take k)) := fun W x k hx hp => by
      obtain ⟨b, off, e, h1, h2, h3⟩ := hx (by rw [iv_len] at hp ⊢; rw [List.length_take] at hp; omega)
      refine ⟨b, off, e, h1, h2, fun j u hu => h3 j u ?_⟩
      unfold iv at hu ⊢
      rw [List.map_take, List.getElem?_take] at hu
      split at hu
      · exact hu
      · cases hu
    by_cases h20 : 20 < len
    · exact ⟨20, L.take 20, by rw [if_pos h20], ⟨by rw [List.length_take]; omega, by omega⟩, Lib.hid (cut _ _ _ HRG.out), Lib.hid (cut _ _ _ HRH.out)⟩
    · exact ⟨len, L, by rw [if_neg h20], ⟨hl, by omega⟩, HRG, HRH⟩
  have HM := Lib.hid hmM
  clear hmM HRG HRH hl
  by_cases h20 : 20 < len
  · rw [if_pos h20] at hm
    have hsl := hslice h20
    subst hm
    clear hslice
    go_enter Try.func9, Try.ntmps9
    go_wp2_with fail
    generalize w.alloc (.cells (askC 3 o n A len cap b) 30) = W at *
    generalize w.heap.size = X at *
    clear hsl
    go_region_held3 (fun w' => w'.cell? ⟨X, 1, none⟩ = some (.int .i64 o) ∧ w'.cell? ⟨X, 3, none⟩ = some (.slice A len cap) ∧ Turn g h W w')
      (first | exact ⟨c1, c3, (Turn.refl _ _ _).drew⟩ | assumption | (refine box_keep hXs hXg hXh ?_ htp.wide; assumption) | (refine box_keep hXs hXg hXh ?_ htr.wide'; assumption))
      (first
        | (go_at_call 15; refine (give_any o A 20 cap M HM.out.1 HM.out.2 _ HP0.out HGM.out).mono ?_; rintro e wp ⟨rfl, hpp, htp⟩)
        | (go_at_call 25; refine (rgive_any o A 20 cap M HM.out.1 HM.out.2 _ (HR0.out.turn htp (Ne.symm hgh) (Ne.symm hgh)) (rdx_other HGM.out HHM.out htp)).mono ?_; rintro e wr ⟨rfl, hrr, htr⟩))
    have HF := Lib.hid (And.intro (hpp.turn htr hgh hgh) hrr)
    have HT := Lib.hid (show Turn g h W wr by go_split_ands; assumption)
    go_split_ands
    clear hpp hrr htp htr
    go_wp2_with fail
    go_ret
    exact ⟨rfl, ⟨_, HF.out.1, HF.out.2⟩, HT0.out.trans HT.out⟩
  · rw [if_neg h20] at hm
    have hlen20 : len ≤ 20 := by omega
    subst hm
    clear hslice h20
    go_enter Try.func9, Try.ntmps9
    go_wp2_with fail
    generalize w.alloc (.cells (askC 3 o n A m cap b) 30) = W at *
    generalize w.heap.size = X at *
    go_region_held3 (fun w' => w'.cell? ⟨X, 1, none⟩ = some (.int .i64 o) ∧ w'.cell? ⟨X, 3, none⟩ = some (.slice A m cap) ∧ Turn g h W w')
      (first | exact ⟨c1, c3, (Turn.refl _ _ _).drew⟩ | assumption | (refine box_keep hXs hXg hXh ?_ htp.wide; assumption) | (refine box_keep hXs hXg hXh ?_ htr.wide'; assumption))
      (first
        | (go_at_call 15; refine (give_any o A m cap M HM.out.1 HM.out.2 _ HP0.out HGM.out).mono ?_; rintro e wp ⟨rfl, hpp, htp⟩)
        | (go_at_call 25; refine (rgive_any o A m cap M HM.out.1 HM.out.2 _ (HR0.out.turn htp (Ne.symm hgh) (Ne.symm hgh)) (rdx_other HGM.out HHM.out htp)).mono ?_; rintro e wr ⟨rfl, hrr, htr⟩))
    have HF := Lib.hid (And.intro (hpp.turn htr hgh hgh) hrr)
    have HT := Lib.hid (show Turn g h W wr by go_split_ands; assumption)
    go_split_ands
    clear hpp hrr htp htr
    go_wp2_with fail
    go_ret
    exact ⟨rfl, ⟨_, HF.out.1, HF.out.2⟩, HT0.out.trans HT.out⟩
end
end Go.Proofs.Ytjjcbkmdmdkgiaa

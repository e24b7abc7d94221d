/-
  innkeeperlaw5.do, of kinds 2 (Take), 3 (Give) and of no kind: A CONTRACT EACH.
-/
import Derived.Test.YtjjcbkmdmdkgiaaPd1
namespace Go.Proofs.Ytjjcbkmdmdkgiaa
open Go.RowKit
set_option linter.unusedSimpArgs false
set_option linter.unusedVariables false

/-- the frame that was taken: held, all 0 -/
theorem took {S : Po} {o : Int} (h : S.takeE o = 0) (i : Nat) (hi : i < 64) : (S.takeS o).bB (S.takeF o : Int) (i : Int) = true ∧ (S.takeS o).bt (S.takeF o : Int) (i : Int) = 0 := by
  rcases take_cases S o with ⟨_, e, _⟩ | ⟨_, _, e, _⟩ | ⟨_, _, _, e, _⟩ | ⟨ho, _, f, hf, e1, e2, e3⟩
  · omega
  · omega
  · omega
  · obtain ⟨l1, l2, _, _⟩ := lowF_some hf
    obtain ⟨k, rfl, hk⟩ := oB_true ho
    have hb : (S.takeS (k : Int)).bB (S.takeF (k : Int) : Int) (i : Int) = true := by
      rw [e2, e3]
      unfold Po.bB
      rw [hB_nat l2]
      have : (S.tk f (k : Int)).own f = (k : Int) := by simp [Po.tk]
      rw [this]
      simp [neB, aB]; omega
    refine ⟨hb, ?_⟩
    unfold Po.bt
    rw [if_pos hb, e2, e3]
    simp [Po.tk]
section
variable {g h : Nat} {S : Po}
set_option maxRecDepth 100000 in
set_option maxHeartbeats 1000000 in
theorem do_0 (k o n : Int) (A : Option Addr) (len cap : Nat) (b : Int) (hk : k ≠ 1 ∧ k ≠ 2 ∧ k ≠ 3 ∧ k ≠ 4 ∧ k ≠ 5) (w : World) (hP : IsP w g S) (hR : IsR w h S) :
    Calls Try.prog 9 #[.pointer (some ⟨g, 0, none⟩), .pointer (some ⟨h, 0, none⟩), askV k o n A len cap b] w (Did g h w) := by
  have hB0 := (Below.refl w.heap.size w).alloc (Nat.le_refl _) (.cells (askC k o n A len cap b) 30)
  have HF := Lib.hid (And.intro (hP.below hB0) (hR.below hB0))
  have HT0 := Lib.hid ((Turn.refl g h w).trans (Turn.of_below hB0))
  have k1 : (k == 1) = false := by simp; omega
  have k2 : (k == 2) = false := by simp; omega
  have k3 : (k == 3) = false := by simp; omega
  have k4 : (k == 4) = false := by simp; omega
  have k5 : (k == 5) = false := by simp; omega
  clear hk hB0 hP hR
  go_enter Try.func9, Try.ntmps9
  go_wp2
  go_ret
  exact ⟨rfl, ⟨_, HF.out.1, HF.out.2⟩, HT0.out⟩
set_option maxRecDepth 100000 in
set_option maxHeartbeats 2000000 in
theorem do_2 (o n : Int) (A : Option Addr) (len cap : Nat) (b : Int) (w : World) (hgh : g ≠ h) (hP : IsP w g S) (hR : IsR w h S) :
    Calls Try.prog 9 #[.pointer (some ⟨g, 0, none⟩), .pointer (some ⟨h, 0, none⟩), askV 2 o n A len cap b] w (Did g h w) := by
  have hn : ∀ i, (w.alloc (.cells (askC 2 o n A len cap b) 30)).cell? ⟨w.heap.size, i, none⟩ = (askC 2 o n A len cap b)[i]? := fun i => World.cell?_alloc_new _ _ _ _
  have c1 := hn 1
  simp only [List.getElem?_toArray, List.getElem?_cons_zero, List.getElem?_cons_succ] at c1
  have hB0 := (Below.refl w.heap.size w).alloc (Nat.le_refl _) (.cells (askC 2 o n A len cap b) 30)
  have hg := hP.z
  have hh := hR.z
  have hXs : w.heap.size < (w.alloc (.cells (askC 2 o n A len cap b) 30)).heap.size := by simp
  have HT0 := Lib.hid ((Turn.refl g h w).trans (Turn.of_below hB0))
  have HP0 := Lib.hid (hP.below hB0)
  have HR0 := Lib.hid (hR.below hB0)
  clear hn hB0 hP hR
  have hXg : w.heap.size ≠ g := by omega
  have hXh : w.heap.size ≠ h := by omega
  have hself : ((S.takeF o : Int) != (S.takeF o : Int)) = false := by simp
  have hself2 : (S.takeE o != S.takeE o) = false := by simp
  by_cases he : S.takeE o = 0
  · have HTK := Lib.hid (fun i hi => took he i hi)
    have hta := take_any (g := g) o _ HP0.out
    have hra := fun (W : World) (hW : IsR W h S) => rtake_any o W hW
    unfold Taken at hta
    unfold Rtaken at hra
    rw [he] at hta hra
    have HTA := Lib.hid hta
    have HRA := Lib.hid hra
    clear hta hra he hself2
    generalize hf : S.takeF o = f at *
    generalize hs : S.takeS o = S' at *
    clear hf hs
    go_enter Try.func9, Try.ntmps9
    go_wp2_with (first
      | (go_at_call 17; refine HTA.out.mono ?_; rintro e wp ⟨rfl, hpp, htp⟩
         have d1 := (htp.cell (p := ⟨w.heap.size, 1, none⟩) hXs hXg hXg).trans c1
         have HPP := Lib.hid hpp
         have HTP := Lib.hid htp
         clear hpp htp)
      | (go_at_call 24; refine (HRA.out _ (HR0.out.turn HTP.out (Ne.symm hgh) (Ne.symm hgh))).mono ?_; rintro e wr ⟨rfl, hrr, htr⟩
         have HRR := Lib.hid hrr
         have HTR := Lib.hid htr
         clear hrr htr))
    have HPF := Lib.hid (HPP.out.turn HTR.out hgh hgh)
    go_loop [11] (fun i => ∃ k : Nat, k ≤ 64 ∧ i = .int .i64 k) (fun i => 64 - (intOf i).toNat)
    case atStart => exact ⟨0, by omega, rfl⟩
    case round =>
      obtain ⟨k, hk, rfl⟩ := hrel
      by_cases hlt : k < 64
      · have hby := byte_any (f : Int) (k : Int) _ HPF.out
        rw [(HTK.out k hlt).1, (HTK.out k hlt).2] at hby
        have HBY := Lib.hid hby
        clear hby
        go_wp2_with (go_at_call 18; refine HBY.out.mono ?_; rintro e w' ⟨rfl, rfl⟩)
        go_round
        case rel => exact ⟨k + 1, by omega, by go_num⟩
        case measure => simp [intOf]; omega
      · have hge : 64 ≤ k := by omega
        clear hlt hk
        go_wp2
        go_ret
        exact ⟨rfl, ⟨S', HPF.out, HRR.out⟩, (HT0.out.trans HTP.out.wide).trans HTR.out.wide'⟩
  · have hta := take_any (g := g) o _ HP0.out
    have hra := fun (W : World) (hW : IsR W h S) => rtake_any o W hW
    unfold Taken at hta
    unfold Rtaken at hra
    have HTA := Lib.hid hta
    have HRA := Lib.hid hra
    have hee : (S.takeE o == 0) = false := by simpa using he
    clear hta hra he
    generalize hf : S.takeF o = f at *
    generalize hs : S.takeS o = S' at *
    generalize hq : S.takeE o = E at *
    clear hf hs hq
    go_enter Try.func9, Try.ntmps9
    go_wp2_with (first
      | (go_at_call 17; refine HTA.out.mono ?_; rintro e wp ⟨rfl, hpp, htp⟩
         have d1 := (htp.cell (p := ⟨w.heap.size, 1, none⟩) hXs hXg hXg).trans c1
         have HPP := Lib.hid hpp
         have HTP := Lib.hid htp
         clear hpp htp)
      | (go_at_call 24; refine (HRA.out _ (HR0.out.turn HTP.out (Ne.symm hgh) (Ne.symm hgh))).mono ?_; rintro e wr ⟨rfl, hrr, htr⟩
         have HRR := Lib.hid hrr
         have HTR := Lib.hid htr
         clear hrr htr))
    go_ret
    exact ⟨rfl, ⟨S', HPP.out.turn HTR.out hgh hgh, HRR.out⟩, (HT0.out.trans HTP.out.wide).trans HTR.out.wide'⟩
end
end Go.Proofs.Ytjjcbkmdmdkgiaa

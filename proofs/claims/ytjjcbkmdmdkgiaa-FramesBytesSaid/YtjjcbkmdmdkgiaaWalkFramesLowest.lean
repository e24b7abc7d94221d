/-
  innkeeperlaw5.FramesLowest returns true: its walk.
-/
import Derived.Test.YtjjcbkmdmdkgiaaPc
import Derived.Test.YtjjcbkmdmdkgiaaRow
import Derived.Test.YtjjcbkmdmdkgiaaWi
import Derived.Outline
namespace Go.Proofs.Ytjjcbkmdmdkgiaa
open Go.RowKit
set_option linter.unusedSimpArgs false
set_option linter.unusedVariables false

/-- which frames are held in the law's second and third loops -/
def Sub (P : Nat → Bool) (k : Nat) : Prop := ∀ f, 16 ≤ f → f < k → P f = true

set_option maxRecDepth 100000 in
set_option maxHeartbeats 4000000 in
theorem framesLowest_walk (A0 : Option Addr) (len0 cap0 : Nat) (z0 : List Int) (a1 : Int) (w : World) (w0 : IsRow .i64 w A0 len0 cap0 z0) (w1 : (Lit.int .i64 a1).wf = true) :
    Calls Try.prog 5 #[.slice A0 len0 cap0, .int .i64 a1] w fun e w' => e = .returned (.bool true) ∧ Below w.heap.size w w' := by
  obtain ⟨hl0, hc0, hA0, l, hlen, hwf, hrd⟩ := w0.rd
  obtain ⟨c0, c1⟩ := i64_of_wf w1
  have hwi := within_book a1 3 c0 c1 (by omega) (by omega)
  obtain ⟨x0, x1⟩ := wdV_bd a1 0 3 (by omega)
  generalize wdV a1 0 3 = ow at *
  obtain ⟨o, rfl⟩ := Int.eq_ofNat_of_zero_le x0
  have ho : o < 4 := by omega
  obtain ⟨p1, p2⟩ := low_prom o 64 ho (by omega)
  have HWI := Lib.hid hwi
  have HRD := Lib.hid hrd
  have HWF := Lib.hid hwf
  have HLEN := Lib.hid hlen
  have HP1 := Lib.hid p1
  have HP2 := Lib.hid p2
  unfold maxLen at hc0
  clear hwi hrd hwf w0 w1 hA0 hlen p1 p2 c0 c1 x0
  go_enter Try.func5, Try.ntmps5
  go_wp2_with fail
  refine (newP_any _).mono ?_
  rintro e w1 ⟨rfl, hp1, hb1⟩
  have HQ1 := Lib.hid hp1
  have HB1 := Lib.hid hb1
  have hg1 := hp1.z
  clear hp1 hb1
  generalize hG : w.heap.size = g at *
  have HG := Lib.hid hG
  clear hG
  go_wp2_with (first
    | (go_at_call 12; refine (HWI.out _).mono ?_; rintro e w' ⟨rfl, rfl⟩)
    | (go_at_call 13; refine (promise_any (o : Int) 64 _ HQ1.out).mono ?_; rintro e w2 ⟨rfl, hp2, ht2⟩
       rw [show po0.promV (o : Int) 64 = 0 from HP1.out]
       have HQ2 := Lib.hid hp2
       have HB2 := Lib.hid (ht2.below (Nat.le_refl _) (Nat.le_refl _) HB1.out (Nat.le_of_lt hg1))
       clear hp2 ht2))
  go_loopw [7] (fun i wr => ∃ (k : Nat) (S : Po), k ≤ 64 ∧ i = .int .i64 k ∧ Hid (IsP wr g S) ∧ Hid (Low S o 64 (fun f => decide (16 ≤ f ∧ f < 16 + k))) ∧ Hid (Below g w wr)) (fun i _ => 64 - (intOf i).toNat)
  case atStart => exact ⟨0, _, by omega, rfl, HQ2, Lib.hid (by
    have := HP2.out
    have e : (fun f => decide (16 ≤ f ∧ f < 16 + 0)) = fun _ => false := by funext f; simp <;> omega
    rw [e]; exact this), HB2⟩
  case round =>
    clear HQ1 HB1 HQ2 HB2 HP1 HP2
    obtain ⟨k, S, hk, rfl, hQ, hL, hB⟩ := hrel
    have hz := hQ.out.z
    by_cases hlt : k < 64
    · obtain ⟨e1, e2, e3⟩ := hL.out.take64 (16 + k) (by omega) (by simp) (fun j h1 h2 => by simp <;> omega)
      have HE := Lib.hid (And.intro e1 e2)
      have HL2 := Lib.hid e3
      clear e1 e2 e3
      have hki : (k : Int) < 64 := by omega
      go_wp2_with (go_at_call 17; refine (take_any (o : Int) _ hQ.out).mono ?_; rintro e w2 ⟨rfl, hp2, ht2⟩
                   rw [HE.out.1, HE.out.2]
                   have hnum : ((16 + k : Nat) : Int) = 16 + (k : Int) := by omega
                   rw [hnum]
                   have HQ2 := Lib.hid hp2
                   have HB2 := Lib.hid (ht2.below (Nat.le_refl _) (Nat.le_refl _) hB.out (Nat.le_of_lt hz))
                   clear hp2 ht2 hnum)
      go_roundw
      case rel => exact ⟨k + 1, _, by omega, by go_num, HQ2, Lib.hid (by
        have e : (fun f => decide (16 ≤ f ∧ f < 16 + (k + 1))) = fun f => decide (16 ≤ f ∧ f < 16 + k) || decide (f = 16 + k) := by
          funext f; rw [Bool.eq_iff_iff]; simp; omega
        rw [e]; exact HL2.out), HB2⟩
      case measure => simp [intOf]; omega
    · have hk64 : k = 64 := by omega
      have HK64 := Lib.hid hk64
      clear hk hz hk64
      go_wp2_with fail
      clear hlt
      go_loopw [10] (fun i wr => ∃ (k : Nat) (S : Po) (P : Nat → Bool), k ≤ 30 ∧ k ≤ len0 ∧ i = .int .i64 k ∧ Hid (IsP wr g S) ∧ Hid (Low S o 64 P) ∧ Hid (Below g w wr)) (fun i _ => 30 - (intOf i).toNat)
      case atStart => exact ⟨0, S, _, by omega, by omega, rfl, hQ, hL, hB⟩
      clear HK64
      case round =>
        clear hQ hL hB
        obtain ⟨k, S, P, hk, hkn, rfl, hQ, hL, hB⟩ := hrel
        have hz := hQ.out.z
        by_cases hlt : k < len0 ∧ k < 30
        · obtain ⟨h1, h2⟩ := hlt
          have hkl : k < l.length := by have := HLEN.out; omega
          obtain ⟨b, off, rfl, hbg, hc⟩ := HRD.out (by rw [List.length_map]; omega)
          have hck := (hB.out.cell (p := ⟨b, off + k, none⟩) (by have := HG.out; show b < g; omega)).trans (hc k (.int .i64 l[k]) (by simp [List.getElem?_eq_getElem hkl]))
          obtain ⟨b0, b1⟩ := i64_of_wf (HWF.out _ (List.getElem_mem hkl))
          have hwd := within_book l[k] 63 b0 b1 (by omega) (by omega)
          obtain ⟨y0, y1⟩ := wdV_bd l[k] 0 63 (by omega)
          generalize wdV l[k] 0 63 = y at *
          generalize l[k] = x at *
          obtain ⟨q, rfl⟩ := Int.eq_ofNat_of_zero_le y0
          have HWD := Lib.hid hwd
          have hnum : ((16 + q : Nat) : Int) = 16 + (q : Int) := by omega
          have how := owner_any ((16 + q : Nat) : Int) _ hQ.out
          rw [hL.out.who (16 + q) (by omega), hL.out.hB (16 + q) (by omega), hnum] at how
          have hle1 : (k : Int) < (len0 : Int) := by omega
          clear hc hwd hkl
          cases hp : P (16 + q)
          · rw [hp] at how
            simp only [Bool.false_eq_true, if_false] at how
            have HOW := Lib.hid how
            clear how hp hnum
            go_wp2_with (first
              | (go_at_call 12; refine (HWD.out _).mono ?_; rintro e w' ⟨rfl, rfl⟩)
              | (go_at_call 21; refine HOW.out.mono ?_; rintro e w' ⟨rfl, rfl⟩))
            go_roundw
            case rel => exact ⟨k + 1, S, P, by omega, by omega, by go_num, hQ, hL, hB⟩
            case measure => simp [intOf]; omega
          · rw [hp] at how
            simp only [if_true] at how
            obtain ⟨g1, g2, g3⟩ := hL.out.give (16 + q) hp
            rw [hnum] at g1 g2
            have HOW := Lib.hid how
            have HG3 := Lib.hid g3
            have HGG := Lib.hid (And.intro g1 g2)
            clear how hp hnum g1 g2 g3
            go_wp2_with (first
              | (go_at_call 12; refine (HWD.out _).mono ?_; rintro e w' ⟨rfl, rfl⟩)
              | (go_at_call 21; refine HOW.out.mono ?_; rintro e w' ⟨rfl, rfl⟩)
              | (go_at_call 15; refine (give_any (o : Int) _ 1 1 [16 + (q : Int)] rfl (by omega) _ (hQ.out.below ((Below.refl _ _).alloc (Nat.le_refl _) _)) (one_rdx _ g hz _ _)).mono ?_; rintro e w2 ⟨rfl, hp2, ht2⟩
                 rw [HGG.out.1]
                 rw [HGG.out.2] at hp2
                 have HQ2 := Lib.hid hp2
                 have HB2 := Lib.hid (ht2.below (Nat.le_refl _) (Nat.le_refl _) (hB.out.alloc (Nat.le_of_lt hz) _) (by simp; omega))
                 clear hp2 ht2))
            go_roundw
            case rel => exact ⟨k + 1, _, _, by omega, by omega, by go_num, HQ2, HG3, HB2⟩
            case measure => simp [intOf]; omega
        · have hlt2 : (decide ((k : Int) < (len0 : Int)) && decide ((k : Int) < 30)) = false := by
            rw [Bool.eq_false_iff]; simp; omega
          have HEX := Lib.hid hlt2
          rcases (show len0 ≤ k ∨ (k < len0 ∧ 30 ≤ k) by omega) with hex | ⟨hex, hex2⟩
          all_goals
            clear hlt hlt2
            go_wp2_with fail
            clear hex
            try clear hex2
            go_loopw [14] (fun i wr => ∃ (k : Nat) (S : Po) (P : Nat → Bool), k ≤ 80 ∧ i = .int .i64 k ∧ Hid (16 ≤ k) ∧ Hid (IsP wr g S) ∧ Hid (Low S o 64 P) ∧ Hid (Sub P k) ∧ Hid (Below g w wr)) (fun i _ => 80 - (intOf i).toNat)
            case atStart => exact ⟨16, S, P, by omega, rfl, Lib.hid (by omega), hQ, hL, Lib.hid (fun f h1 h2 => by omega), hB⟩
            case round =>
              clear hQ hL hB HEX
              obtain ⟨k, S, P, hk, rfl, hk0, hQ, hL, hS, hB⟩ := hrel
              have hz := hQ.out.z
              by_cases hlt : k < 80
              · have how := owner_any (k : Int) _ hQ.out
                rw [hL.out.who k (by omega), hL.out.hB k (by omega)] at how
                cases hp : P k
                · rw [hp] at how
                  simp only [Bool.false_eq_true, if_false] at how
                  obtain ⟨e1, e2, e3⟩ := hL.out.take64 k ⟨hk0.out, hlt⟩ hp hS.out
                  have HE := Lib.hid (And.intro e1 e2)
                  have HL2 := Lib.hid e3
                  have HOW := Lib.hid how
                  clear how hp e1 e2 e3
                  go_wp2_with (first
                    | (go_at_call 21; refine HOW.out.mono ?_; rintro e w' ⟨rfl, rfl⟩)
                    | (go_at_call 17; refine (take_any (o : Int) _ hQ.out).mono ?_; rintro e w2 ⟨rfl, hp2, ht2⟩
                       rw [HE.out.1, HE.out.2]
                       have HQ2 := Lib.hid hp2
                       have HB2 := Lib.hid (ht2.below (Nat.le_refl _) (Nat.le_refl _) hB.out (Nat.le_of_lt hz))
                       clear hp2 ht2))
                  go_roundw
                  case rel => exact ⟨k + 1, _, _, by omega, by go_num, Lib.hid (by have := hk0.out; omega), HQ2, HL2, Lib.hid (fun f h1 h2 => by
                    by_cases e : f = k
                    · simp [e]
                    · simp [hS.out f h1 (by omega)]), HB2⟩
                  case measure => simp [intOf]; omega
                · rw [hp] at how
                  simp only [if_true] at how
                  have HOW := Lib.hid how
                  have HP := Lib.hid hp
                  clear how hp
                  go_wp2_with (go_at_call 21; refine HOW.out.mono ?_; rintro e w' ⟨rfl, rfl⟩)
                  go_roundw
                  case rel => exact ⟨k + 1, S, P, by omega, by go_num, Lib.hid (by have := hk0.out; omega), hQ, hL, Lib.hid (fun f h1 h2 => by
                    by_cases e : f = k
                    · subst e; exact HP.out
                    · exact hS.out f h1 (by omega)), hB⟩
                  case measure => simp [intOf]; omega
              · have hall : ∀ f, P f = decide (16 ≤ f ∧ f < 80) := fun f => by
                  by_cases h : 16 ≤ f ∧ f < 80
                  · rw [hS.out f h.1 (by omega)]; simp [h]
                  · cases hp : P f
                    · simp; omega
                    · exact absurd (hL.out.rg f hp) h
                obtain ⟨f1, f2⟩ := hL.out.full hall
                obtain ⟨f3, f4, f5⟩ : S.takeE o = 13 ∧ S.takeF o = 0 ∧ S.takeS o = S := by
                  have h1 : S.takeE (o : Int) ≠ 0 := by rw [f1]; decide
                  exact ⟨f1, by unfold Po.takeF; rw [if_neg h1], by unfold Po.takeS; rw [if_neg h1]⟩
                have hta := take_any (o : Int) _ hQ.out
                unfold Taken at hta
                rw [f3, f4, f5] at hta
                have HTA := Lib.hid hta
                have HF := Lib.hid f2
                clear hall f1 f2 f3 f4 f5 hta
                go_wp2_with (first
                  | (go_at_call 17; refine HTA.out.mono ?_; rintro e w2 ⟨rfl, hp2, ht2⟩
                     have HQ2 := Lib.hid hp2
                     have HB2 := Lib.hid (ht2.below (Nat.le_refl _) (Nat.le_refl _) hB.out (Nat.le_of_lt hz))
                     clear hp2 ht2)
                  | (go_at_call 22; refine (free_any _ HQ2.out).mono ?_; rintro e w' ⟨rfl, rfl⟩; rw [HF.out])
                  | (go_at_call 11; refine (known_any _).mono ?_; rintro e w3 ⟨rfl, hb3⟩; have HB3 := Lib.hid hb3; clear hb3))
                go_ret
                have hh := HG.out
                subst hh
                exact ⟨rfl, HB2.out.trans (HB3.out.mono HB2.out.size)⟩
end Go.Proofs.Ytjjcbkmdmdkgiaa

/-
  innkeeperlaw5.do, of kind 5 (Put): A CONTRACT.
-/
import Derived.Test.YtjjcbkmdmdkgiaaPd3
import Derived.Test.YtjjcbkmdmdkgiaaWi
import Derived.Deep.DeepCutAuto
namespace Go.Proofs.Ytjjcbkmdmdkgiaa
open Go.RowKit
set_option linter.unusedSimpArgs false
set_option linter.unusedVariables false

section
variable {g h : Nat} {S : Po}
theorem wdV_same (n : Int) (h0 : 0 ≤ n) (h1 : n < 256) : wdV n 0 255 = n := by
  unfold wdV
  rw [show (255 - 0 + 1 : Int) = 256 by decide, Int.emod_eq_of_lt h0 h1]; omega
set_option maxRecDepth 100000 in
set_option maxHeartbeats 4000000 in
theorem do_5 (o n : Int) (A : Option Addr) (len cap : Nat) (b : Int) (hb : 0 ≤ b ∧ b < 256) (w : World) (hgh : g ≠ h) (hP : IsP w g S) (hR : IsR w h S) :
    Calls Try.prog 9 #[.pointer (some ⟨g, 0, none⟩), .pointer (some ⟨h, 0, none⟩), askV 5 o n A len cap b] w (Did g h w) := by
  have hn : ∀ i, (w.alloc (.cells (askC 5 o n A len cap b) 30)).cell? ⟨w.heap.size, i, none⟩ = (askC 5 o n A len cap b)[i]? := fun i => World.cell?_alloc_new _ _ _ _
  have c1 := hn 1
  have c2 := hn 2
  have c4 := hn 4
  simp only [List.getElem?_toArray, List.getElem?_cons_zero, List.getElem?_cons_succ] at c1 c2 c4
  have hB0 := (Below.refl w.heap.size w).alloc (Nat.le_refl _) (.cells (askC 5 o n A len cap b) 30)
  have hg := hP.z
  have hh := hR.z
  have hXs : w.heap.size < (w.alloc (.cells (askC 5 o n A len cap b) 30)).heap.size := by simp
  have HT0 := Lib.hid ((Turn.refl g h w).trans (Turn.of_below hB0))
  have HP0 := Lib.hid (hP.below hB0)
  have HR0 := Lib.hid (hR.below hB0)
  clear hn hB0 hP hR
  have hXg : w.heap.size ≠ g := by omega
  have hXh : w.heap.size ≠ h := by omega
  have HBB := Lib.hid hb
  go_enter Try.func9, Try.ntmps9
  go_wp2_with fail
  generalize w.alloc (.cells (askC 5 o n A len cap b) 30) = W at *
  generalize w.heap.size = X at *
  go_cut [15] from 111 to 139 (fun v wx => v = .bool (S.bB n o) ∧ Hid (Below W.heap.size W wx))
  case first =>
    by_cases h1 : n < 0
    · have e : S.bB n o = false := by unfold Po.bB Po.hB; have : fB n = false := by { simp [fB]; omega }; rw [this]; rfl
      have d1 : decide (n ≥ 0) = false := by simp; omega
      have HE := Lib.hid e
      clear e h1
      go_quiet (fail)
      go_wp2_with fail
      go_meet
      case rel => exact ⟨by rw [HE.out], Lib.hid (Below_drewN (Below.refl _ _) _)⟩
    · have d1 : decide (n ≥ 0) = true := by simp; omega
      by_cases h2 : 256 ≤ n
      · have e : S.bB n o = false := by unfold Po.bB Po.hB; have : fB n = false := by { simp [fB]; omega }; rw [this]; rfl
        have d2 : decide (n < 256) = false := by simp; omega
        have HE := Lib.hid e
        clear e h1 h2
        go_quiet (fail)
        go_wp2_with fail
        go_meet
        case rel => exact ⟨by rw [HE.out], Lib.hid (Below_drewN (Below.refl _ _) _)⟩
      · have d2 : decide (n < 256) = true := by simp; omega
        by_cases h3 : o < 0
        · have e : S.bB n o = false := by unfold Po.bB; have : aB o = false := by { simp [aB]; omega }; rw [this, Bool.and_false]
          have d3 : decide (o ≥ 0) = false := by simp; omega
          have HE := Lib.hid e
          clear e h1 h2 h3
          go_quiet (fail)
          go_wp2_with fail
          go_meet
          case rel => exact ⟨by rw [HE.out], Lib.hid (Below_drewN (Below.refl _ _) _)⟩
        · have d3 : decide (o ≥ 0) = true := by simp; omega
          by_cases h4 : 64 ≤ o
          · have e : S.bB n o = false := by unfold Po.bB; have : aB o = false := by { simp [aB]; omega }; rw [this, Bool.and_false]
            have d4 : decide (o < 64) = false := by simp; omega
            have HE := Lib.hid e
            clear e h1 h2 h3 h4
            go_quiet (fail)
            go_wp2_with fail
            go_meet
            case rel => exact ⟨by rw [HE.out], Lib.hid (Below_drewN (Below.refl _ _) _)⟩
          · have d4 : decide (o < 64) = true := by simp; omega
            obtain ⟨k, rfl⟩ := Int.eq_ofNat_of_zero_le (show 0 ≤ n by omega)
            have hk : k < 256 := by omega
            have e : S.bB (k : Int) o = neB (S.own k) := by unfold Po.bB; rw [hB_nat hk]; have : aB o = true := by { simp [aB]; omega }; rw [this, Bool.and_true]
            have hc := HR0.out.ow k hk
            have hk0 : (0 : Int) ≤ (k : Int) := by omega
            have hk1 : (k : Int) < 256 := by omega
            have hw := fun (W : World) => within_book (k : Int) 255 (by omega) (by omega) (by omega) (by omega) W
            rw [wdV_same _ hk0 hk1] at hw
            have HW := Lib.hid (fun (W : World) => (hw W).mono (R' := fun e w' => e = .returned (.int .i64 k) ∧ w' = W) fun _ _ h => ⟨h.1, h.2.symm⟩)
            have hnb : neB (S.own k) = decide (S.own k ≥ 0) := rfl
            rw [hnb] at e
            have HE := Lib.hid e
            clear e h1 h2 h3 h4 hw hnb
            generalize S.own k = x at *
            cases hx : decide (x ≥ 0)
            all_goals
              have HX := Lib.hid hx
              go_quiet ((go_at_call 12; exact Calls.quiet_of_same (HW.out _)))
              go_wp2_with fail
              go_meet
              case rel => exact ⟨by rw [HE.out, HX.out], Lib.hid (Below_drewN (Below.refl _ _) _)⟩
  case rest =>
    obtain ⟨rfl, hBc⟩ := hcut
    have d1 := (hBc.out.cell (p := ⟨X, 1, none⟩) hXs).trans c1
    have d2 := (hBc.out.cell (p := ⟨X, 2, none⟩) hXs).trans c2
    have d4 := (hBc.out.cell (p := ⟨X, 4, none⟩) hXs).trans c4
    have HP1 := Lib.hid (HP0.out.below hBc.out)
    have HR1 := Lib.hid (HR0.out.below hBc.out)
    have HT1 := Lib.hid (HT0.out.trans (Turn.of_below hBc.out))
    have hXs1 : X < wc.heap.size := Nat.lt_of_lt_of_le hXs hBc.out.size
    clear c1 c2 c4 HP0 HR0 HT0 hBc
    cases hok : S.bB n o
    · have hby := byte_any n o _ HP1.out
      unfold Po.bt at hby
      rw [hok] at hby
      simp only [Bool.false_eq_true, if_false] at hby
      have HBY := Lib.hid hby
      have HOK := Lib.hid hok
      clear hby hok
      go_wp2_with (first
        | (go_at_call 19; refine (put_no n o b _ HP1.out HOK.out).mono ?_; rintro e w' ⟨rfl, rfl⟩)
        | (go_at_call 18; refine HBY.out.mono ?_; rintro e w' ⟨rfl, rfl⟩))
      go_ret
      exact ⟨rfl, ⟨S, HP1.out, HR1.out⟩, HT1.out⟩
    · obtain ⟨k, i, rfl, rfl, hk, hi, h0⟩ := bB_true hok
      have HOK := Lib.hid hok
      have hk0 : (0 : Int) ≤ (k : Int) := by omega
      have hk1 : (k : Int) < 256 := by omega
      have hi0 : (0 : Int) ≤ (i : Int) := by omega
      have hi1 : (i : Int) < 64 := by omega
      clear hok h0
      go_wp2_with (go_at_call 19; refine (put_any (k : Int) (i : Int) b HBB.out _ HP1.out HOK.out).mono ?_; rintro e w2 ⟨rfl, hp2, ht2⟩
                   rw [Int.toNat_natCast, Int.toNat_natCast] at hp2
                   have e1 := (ht2.cell (p := ⟨X, 1, none⟩) hXs1 hXg hXg).trans d1
                   have e2 := (ht2.cell (p := ⟨X, 2, none⟩) hXs1 hXg hXg).trans d2
                   have e4 := (ht2.cell (p := ⟨X, 4, none⟩) hXs1 hXg hXg).trans d4
                   have hr2 := HR1.out.turn ht2 (Ne.symm hgh) (Ne.symm hgh)
                   have HP2 := Lib.hid hp2
                   have HR2 := Lib.hid hr2
                   have HT2 := Lib.hid (HT1.out.trans ht2.wide)
                   clear hp2 ht2 hr2)
      obtain ⟨v0, hv0⟩ := Option.isSome_iff_exists.1 (HR2.out.bt (k * 64 + i) (by omega))
      rw [← Nat.add_assoc] at hv0
      have hf0 := HR2.out.fr (260 + k * 64 + i)
      have hXs2 : X < w2.heap.size := block_lt_of_cell e1
      have HRS := Lib.hid (show ∀ v, IsR (w2.setCell ⟨h, 260 + k * 64 + i, none⟩ v) h (S.put k i b) from fun v => by
        have := HR2.out.setByte (k * 64 + i) (by omega) v (S.put k i b).byte HP2.out.good.byte
        rw [← Nat.add_assoc] at this; exact this)
      go_cut [15] from 151 to 161 (fun v wx => v = .bool true ∧ Hid (IsP wx g (S.put k i b)) ∧ Hid (IsR wx h (S.put k i b)) ∧ Hid (Turn g h w wx) ∧ Hid (wx.cell? ⟨X, 1, none⟩ = some (.int .i64 i) ∧ wx.cell? ⟨X, 2, none⟩ = some (.int .i64 k) ∧ wx.cell? ⟨X, 4, none⟩ = some (.int .u8 b)))
      case first =>
        have E1 := Lib.hid e1
        have E2 := Lib.hid e2
        have E4 := Lib.hid e4
        go_wp2_with fail
        go_region
        all_goals
          go_wp2_with fail
          go_meet
          case rel =>
            refine ⟨rfl, Lib.hid ?_, Lib.hid ?_, Lib.hid ?_, Lib.hid ⟨?_, ?_, ?_⟩⟩
            · first | exact HP2.out.far hgh _ | exact (HP2.out.far hgh _).below ((Below.refl _ _).drew) | exact (HP2.out.below ((Below.refl _ _).drew)).far hgh _
            · first | exact HRS.out _ | exact (HRS.out _).below ((Below.refl _ _).drew)
            · first | exact HT2.out.setH _ _ | exact (HT2.out.setH _ _).drew | exact HT2.out.drew.setH _ _
            · first | exact (World.cell?_setCell_other _ _ _ _ (by simp <;> omega)).trans E1.out | (simp; exact (World.cell?_setCell_other _ _ _ _ (by simp <;> omega)).trans E1.out)
            · first | exact (World.cell?_setCell_other _ _ _ _ (by simp <;> omega)).trans E2.out | (simp; exact (World.cell?_setCell_other _ _ _ _ (by simp <;> omega)).trans E2.out)
            · first | exact (World.cell?_setCell_other _ _ _ _ (by simp <;> omega)).trans E4.out | (simp; exact (World.cell?_setCell_other _ _ _ _ (by simp <;> omega)).trans E4.out)
      case rest =>
        obtain ⟨rfl, HP3, HR3, HT3, HC3⟩ := hcut
        obtain ⟨f1, f2, f4⟩ := HC3.out
        have hok3 : (S.put k i b).bB (k : Int) (i : Int) = true := HOK.out
        have hby := byte_any (k : Int) (i : Int) _ HP3.out
        unfold Po.bt at hby
        rw [hok3, if_pos rfl, Int.toNat_natCast, Int.toNat_natCast, show (S.put k i b).byte k i = b by simp [Po.put]] at hby
        have HBY := Lib.hid hby
        have hself : (b == b) = true := by simp
        clear hby hok3 e1 e2 e4 hv0 hf0 HRS d1 d2 d4
        go_wp2_with (go_at_call 18; refine HBY.out.mono ?_; rintro e w' ⟨rfl, rfl⟩)
        go_ret
        exact ⟨rfl, ⟨_, HP3.out, HR3.out⟩, HT3.out⟩
end
end Go.Proofs.Ytjjcbkmdmdkgiaa

/-
  innkeeperlaw7.RamWords returns true: its walk.
-/
import Derived.Test.YtgohmchodgoceaaLw
import Derived.Test.YtgohmchodgoceaaLc
import Derived.Test.YtgohmchodgoceaaRh
import Derived.Test.YtgohmchodgoceaaRq
import Derived.Outline
namespace Go.Proofs.Ytgohmchodgoceaa
open Go.RowKit
set_option linter.unusedSimpArgs false
set_option linter.unusedVariables false

/-- two memories on pools of their own -/
structure MeTwo (w0 : World) (B : Nat) (p q : Bl) (w : World) (X Y : Rm) : Prop where
  x : IsM w p X
  y : IsM w q Y
  b : Below B w0 w
  f : p.From B
  f2 : q.From B
  a : Apart p q
  a2 : Apart q p
section
variable {w0 w w' : World} {B : Nat} {p q : Bl} {X Y Z : Rm}
theorem MeTwo.keep (d : MeTwo w0 B p q w X Y) (hB : B ≤ w.heap.size) (hb : Below w.heap.size w w') : MeTwo w0 B p q w' X Y :=
  ⟨d.x.below hb, d.y.below hb, d.b.trans (hb.mono hB), d.f, d.f2, d.a, d.a2⟩
theorem MeTwo.leftX (d : MeTwo w0 B p q w X Y) (hB : B ≤ w.heap.size) (hm : IsM w' p Z) (ha : Alt p w w') : MeTwo w0 B p q w' Z Y :=
  ⟨hm, d.y.alt d.a2 ha, ha.below d.f.1 d.f.2.2.1 d.f.2.2.2.2 d.b hB, d.f, d.f2, d.a, d.a2⟩
theorem MeTwo.leftY (d : MeTwo w0 B p q w X Y) (hB : B ≤ w.heap.size) (hm : IsM w' q Z) (ha : Alt q w w') : MeTwo w0 B p q w' X Z :=
  ⟨d.x.alt d.a ha, hm, ha.below d.f2.1 d.f2.2.2.1 d.f2.2.2.2.2 d.b hB, d.f, d.f2, d.a, d.a2⟩
theorem two_of (h1 : Me w0 B p w X) (h2 : Me w w.heap.size q w' Y) (hB : B ≤ w.heap.size) : MeTwo w0 B p q w' X Y := by
  obtain ⟨z1, z2, z3, z4, z5⟩ := h1.m.z
  obtain ⟨g1, g2, g3, g4, g5⟩ := h2.f
  exact ⟨h1.m.below h2.b, h2.m, h1.b.trans (h2.b.mono hB), h1.f, ⟨by omega, by omega, by omega, by omega, by omega⟩,
    ⟨⟨by omega, by omega, by omega⟩, ⟨by omega, by omega, by omega⟩, ⟨by omega, by omega, by omega⟩, ⟨by omega, by omega, by omega⟩, ⟨by omega, by omega, by omega⟩⟩,
    ⟨⟨by omega, by omega, by omega⟩, ⟨by omega, by omega, by omega⟩, ⟨by omega, by omega, by omega⟩, ⟨by omega, by omega, by omega⟩, ⟨by omega, by omega, by omega⟩⟩⟩
end
set_option maxRecDepth 100000 in
set_option maxHeartbeats 4000000 in
theorem ramWords_walk (a0 a1 : Int) (A2 : Option Addr) (len2 cap2 : Nat) (z2 : List Int) (w : World) (w0 : (Lit.int .u32 a0).wf = true) (w1 : (Lit.int .u32 a1).wf = true) (w2 : IsRow .u8 w A2 len2 cap2 z2) :
    Calls Try.prog 6 #[.int .u32 a0, .int .u32 a1, .slice A2 len2 cap2] w fun e w' => e = .returned (.bool true) ∧ Below w.heap.size w w' := by
  obtain ⟨hl0, hc0, hA0, l, hlen, hwf, hrd⟩ := w2.rd
  have hl : ∀ x ∈ l, 0 ≤ x ∧ x < 256 := fun x hx => u8_of_wf (hwf x hx)
  have x0 := u32_of_wf w0
  have x1 := u32_of_wf w1
  have hcut := cut_any A2 len2 cap2 256 hl0 hc0 hA0
  obtain ⟨m, hm⟩ : ∃ m, min len2 256 = m := ⟨_, rfl⟩
  rw [hm] at hcut
  simp only [Int.cast_ofNat_Int] at hcut
  have hml : (l.take m).length = m := by rw [List.length_take]; omega
  have hLa : ∀ x ∈ l.take m, 0 ≤ x ∧ x < 256 := fun x hx => hl x (List.mem_of_mem_take hx)
  have hRa : Rd w w.heap.size A2 (ub (l.take m)) := by
    have := hrd.take m
    unfold ub; rw [List.map_take]; exact this
  have hm2 : m ≤ 256 := by omega
  generalize l.take m = La at *
  have HC := Lib.hid hcut
  have HA := Lib.hid (And.intro hml (And.intro hLa hRa))
  have HM := Lib.hid hm2
  obtain ⟨a, ha⟩ : ∃ a : Nat, a0 % 253 = a := ⟨(a0 % 253).toNat, by omega⟩
  have ha2 : a < 253 := by omega
  have HV := Lib.hid x1
  clear hcut hml hLa hRa hl hrd hwf hm w0 w1 w2 hA0 hl0 hc0 hlen hm2
  generalize hG : w.heap.size = B at *
  have HG := Lib.hid hG
  clear hG
  go_enter Try.func6, Try.ntmps6
  go_wp2_with (first
    | (go_at_call 10; refine (freshM_any 4 (by omega) (by omega) w).mono ?_; rintro e wa ⟨p, rfl, hd⟩; have HD := Lib.hid hd; clear hd)
    | (go_at_call 10
       refine (freshM_any 4 (by omega) (by omega) wa).mono ?_
       rintro e wb ⟨q, rfl, hd⟩
       have HT := Lib.hid (show MeTwo w B p q wb (rm0 4) (rm0 4) from by rw [← HG.out]; exact two_of HD.out hd HD.out.b.size)
       have hsb : B ≤ wb.heap.size := by have := HT.out.b.size; have := HG.out; omega
       have hlo := loadM_any A2 m cap2 La HA.out.1.symm HA.out.2.1 wb HT.out.x (RdM.of_rd (HA.out.2.2.below HT.out.b) HT.out.f.1 HT.out.f.2.2.1 HT.out.f.2.2.2.2 hsb)
       rw [show (rm0 4).ldE m = 0 from if_pos HM.out] at hlo
       have HLO := Lib.hid hlo
       clear HD hd hlo)
    | (go_at_call 17; refine (HC.out _).mono ?_; rintro e w' ⟨rfl, rfl⟩)
    | (go_at_call 22
       refine HLO.out.mono ?_
       rintro e wc ⟨rfl, hm1, ha1⟩
       have HT2 := Lib.hid (HT.out.leftX hsb hm1 ha1)
       have hsc : B ≤ wc.heap.size := by have := HT2.out.b.size; have := HG.out; omega
       have hlo := loadM_any A2 m cap2 La HA.out.1.symm HA.out.2.1 wc HT2.out.y (RdM.of_rd (HA.out.2.2.below HT2.out.b) HT2.out.f2.1 HT2.out.f2.2.2.1 HT2.out.f2.2.2.2.2 hsc)
       rw [show (rm0 4).ldE m = 0 from if_pos HM.out] at hlo
       have HLO2 := Lib.hid hlo
       clear HLO HT hm1 ha1 hlo)
    | (go_at_call 22
       refine HLO2.out.mono ?_
       rintro e wd ⟨rfl, hm1, ha1⟩
       have HT3 := Lib.hid (HT2.out.leftY hsc hm1 ha1)
       have hsd : B ≤ wd.heap.size := by have := HT3.out.b.size; have := HG.out; omega
       have hn : ((rm0 4).ldS La).n = 4 := by unfold Rm.ldS; split; exact wr_n _ _ _; rfl
       clear HLO2 HT2 hm1 ha1))
  have hn4 : ((rm0 4).ldS La).n * 64 = 256 := by rw [hn]
  generalize (rm0 4).ldS La = X at *
  have hpw := putWord_any a (by omega) a1 HV.out wd HT3.out.x
  rw [decide_eq_true (show a + 4 ≤ X.n * 64 by omega)] at hpw
  refine hpw.mono ?_
  rintro e we ⟨rfl, hm1, ha1⟩
  have HT4 := Lib.hid (HT3.out.leftX hsd hm1 ha1)
  have hse : B ≤ we.heap.size := by have := HT4.out.b.size; have := HG.out; omega
  obtain ⟨e1, e2, e3, e4⟩ := word_bytes X a a1 (by omega) HV.out
  have HE := Lib.hid (And.intro e1 (And.intro e2 (And.intro e3 e4)))
  clear hpw hm1 ha1 HT3 e1 e2 e3 e4
  generalize X.putS a (w4 a1) = Z at *
  have HX := Lib.hid hn4
  clear hn4 hn
  go_wp2_with fail
  go_loopw [12] (fun i wr => ∃ k : Nat, k ≤ 4 ∧ i = .int .u32 k ∧ Hid (MeTwo w B p q wr Z (p4 X a a1 k))) (fun i _ => 4 - (intOf i).toNat)
  case atStart => exact ⟨0, by omega, rfl, HT4⟩
  case round =>
    clear HT4
    obtain ⟨k, hk, rfl, hT⟩ := hrel
    have hzr : B ≤ wr.heap.size := by have := hT.out.b.size; have := HG.out; omega
    by_cases hlt : k < 4
    · have hbd : 0 ≤ (w4 a1).getD k 0 ∧ (w4 a1).getD k 0 < 256 := by
        have hv := HV.out
        rcases (show k = 0 ∨ k = 1 ∨ k = 2 ∨ k = 3 by omega) with rfl | rfl | rfl | rfl <;> simp [w4] <;> omega
      have hpt := putM_any (a + k) (by omega) ((w4 a1).getD k 0) hbd wr hT.out.y
      rw [decide_eq_true (show a + k < (p4 X a a1 k).n * 64 by rw [p4_n]; have := HX.out; omega), Int.natCast_add] at hpt
      have e1 : (p4 X a a1 k).putS (a + k) [(w4 a1).getD k 0] = p4 X a a1 (k + 1) := rfl
      rw [e1] at hpt
      have HP := Lib.hid hpt
      unfold Left at HP
      have hv := HV.out
      clear hpt e1
      rcases (show k = 0 ∨ k = 1 ∨ k = 2 ∨ k = 3 by omega) with rfl | rfl | rfl | rfl
      all_goals
        simp only [w4, List.getD_cons_zero, List.getD_cons_succ] at HP
        go_wp2_with (go_at_call 19; refine HP.out.mono ?_; rintro e w2 ⟨rfl, hm2, ha2⟩; have HT5 := Lib.hid (hT.out.leftY hzr hm2 ha2); clear HP hm2 ha2)
        first
          | exact ⟨⟨1, by omega, rfl, HT5⟩, by simp [intOf]⟩
          | exact ⟨⟨2, by omega, rfl, HT5⟩, by simp [intOf]⟩
          | exact ⟨⟨3, by omega, rfl, HT5⟩, by simp [intOf]⟩
          | exact ⟨⟨4, by omega, rfl, HT5⟩, by simp [intOf]⟩
    · obtain rfl : k = 4 := by omega
      clear hk hlt
      obtain ⟨e1, e2, e3, e4⟩ := HE.out
      have hz4 : Z.n * 64 = 256 := by rw [e4]; exact HX.out
      have hwd := wordM_any a (by omega) wr hT.out.x
      rw [e3, decide_eq_true (show a + 4 ≤ Z.n * 64 by omega)] at hwd
      have HWD := Lib.hid hwd
      have HZ4 := Lib.hid hz4
      unfold Told at HWD
      clear hwd e1 e2 e3 e4 hz4
      go_wp2_with (go_at_call 24; refine HWD.out.mono ?_; rintro e w' ⟨rfl, m2, rfl⟩; have HT6 := Lib.hid (hT.out.keep hzr (Below_drewN (Below.refl _ _) m2)); clear HWD)
      have hz6 : B ≤ (wr.drewN m2).heap.size := hzr
      generalize wr.drewN m2 = W0 at *
      obtain ⟨e1, e2, e3, e4⟩ := HE.out
      have hxn : Z.n = 4 := by have := HZ4.out; omega
      have hyn : (p4 X a a1 4).n = 4 := by rw [p4_n, ← e4]; exact hxn
      have hax : ∀ W, Below W0.heap.size W0 W → Calls Try.prog 25 #[.pointer (some ⟨p.m, 0, none⟩)] W (NewB Z.b 256 (fun A => .slice A 256 256) W) := fun W hb => by
        have := allM_any W (HT6.out.x.below hb)
        rw [HZ4.out] at this; exact this
      have hay : ∀ W, Below W0.heap.size W0 W → Calls Try.prog 25 #[.pointer (some ⟨q.m, 0, none⟩)] W (NewB Z.b 256 (fun A => .slice A 256 256) W) := fun W hb => by
        have := allM_any W (HT6.out.y.below hb)
        rw [hyn, ← e1] at this; exact this
      have htx : ∀ W, Below W0.heap.size W0 W → Calls Try.prog 27 #[.pointer (some ⟨p.m, 0, none⟩)] W (NewL (tuL Z.tu 4) W) := fun W hb => by
        have := turned_any W (HT6.out.x.below hb)
        rw [hxn] at this; exact this
      have hty : ∀ W, Below W0.heap.size W0 W → Calls Try.prog 27 #[.pointer (some ⟨q.m, 0, none⟩)] W (NewL (tuL Z.tu 4) W) := fun W hb => by
        have := turned_any W (HT6.out.y.below hb)
        rw [hyn, ← e2] at this; exact this
      have hle := tuL_le Z.tu 4
      have HBD := Lib.hid (fun j (hj : j < 256) => HT6.out.x.bd j (by rw [HZ4.out]; exact hj))
      have HAX := Lib.hid hax
      have HAY := Lib.hid hay
      have HTX := Lib.hid htx
      have HTY := Lib.hid hty
      have HB0 := Lib.hid HT6.out.b
      unfold NewB at HAX HAY
      unfold NewL at HTX HTY
      generalize tuL Z.tu 4 = L at *
      generalize hLn : L.length = ln at *
      have HLN := Lib.hid hLn.symm
      clear hax hay htx hty HE hT e1 e2 e3 e4 hxn hyn HT6 hLn HX HZ4
      have hst : Below W0.heap.size W0 W0.drew := (Below.refl _ _).drew
      refine wp_region_held_drew (S := fun w' => Below W0.heap.size W0 w') (by kernel_rfl) hst (fun hHeld => ?_)
      try dsimp only
      refine' wpAnyH_take (i := 0) (v := _) rfl (by kernel_rfl) (by kernel_rfl) (by kernel_rfl) (fun _ _ _ h => h) (Or.inl ⟨by rfl, ?hy0⟩) hHeld ?_
      case hy0 => (intro w hSw; (try dsimp only at hSw); go_simp; (try with_reducible rfl))
      (try simp only [Act.put, List.getElem_toArray, List.getElem_cons_succ, List.getElem_cons_zero, List.setIfInBounds_toArray, List.set_cons_zero, List.set_cons_succ])
      refine' wpAnyH_take (i := 1) (v := _) rfl (by kernel_rfl) (by kernel_rfl) (by kernel_rfl) (fun _ _ _ h => h) (Or.inl ⟨by rfl, ?hy1⟩) hHeld ?_
      case hy1 => (intro w hSw; (try dsimp only at hSw); go_simp; (try with_reducible rfl))
      (try simp only [Act.put, List.getElem_toArray, List.getElem_cons_succ, List.getElem_cons_zero, List.setIfInBounds_toArray, List.set_cons_zero, List.set_cons_succ])
      refine' wpAnyH_take (i := 2) (v := _) rfl (by kernel_rfl) (by kernel_rfl) (by kernel_rfl) (fun _ _ _ h => h) (Or.inl ⟨by rfl, ?hy2⟩) hHeld ?_
      case hy2 => (intro w hSw; (try dsimp only at hSw); go_simp; (try with_reducible rfl))
      (try simp only [Act.put, List.getElem_toArray, List.getElem_cons_succ, List.getElem_cons_zero, List.setIfInBounds_toArray, List.set_cons_zero, List.set_cons_succ])
      refine' wpAnyH_take (i := 3) (v := _) rfl (by kernel_rfl) (by kernel_rfl) (by kernel_rfl) (fun _ _ _ h => h) (Or.inl ⟨by rfl, ?hy3⟩) hHeld ?_
      case hy3 => (intro w hSw; (try dsimp only at hSw); go_simp; (try with_reducible rfl))
      (try simp only [Act.put, List.getElem_toArray, List.getElem_cons_succ, List.getElem_cons_zero, List.setIfInBounds_toArray, List.set_cons_zero, List.set_cons_succ])
      refine' wpAnyH_take (i := 4) (v := _) rfl (by kernel_rfl) (by kernel_rfl) (by kernel_rfl) (fun _ _ _ h => h) (Or.inl ⟨by rfl, ?hy4⟩) hHeld ?_
      case hy4 => (intro w hSw; (try dsimp only at hSw); go_simp; (try with_reducible rfl))
      (try simp only [Act.put, List.getElem_toArray, List.getElem_cons_succ, List.getElem_cons_zero, List.setIfInBounds_toArray, List.set_cons_zero, List.set_cons_succ])
      refine' wpAnyH_take (i := 5) (v := _) rfl (by kernel_rfl) (by kernel_rfl) (by kernel_rfl) (fun _ _ _ h => h) (Or.inl ⟨by rfl, ?hy5⟩) hHeld ?_
      case hy5 => (intro w hSw; (try dsimp only at hSw); go_simp; (try with_reducible rfl))
      (try simp only [Act.put, List.getElem_toArray, List.getElem_cons_succ, List.getElem_cons_zero, List.setIfInBounds_toArray, List.set_cons_zero, List.set_cons_succ])
      refine' wpAnyH_take (i := 6) (v := _) rfl (by kernel_rfl) (by kernel_rfl) (by kernel_rfl) (fun _ _ _ h => h) (Or.inl ⟨by rfl, ?hy6⟩) hHeld ?_
      case hy6 => (intro w hSw; (try dsimp only at hSw); go_simp; (try with_reducible rfl))
      (try simp only [Act.put, List.getElem_toArray, List.getElem_cons_succ, List.getElem_cons_zero, List.setIfInBounds_toArray, List.set_cons_zero, List.set_cons_succ])
      refine' wpAnyH_take (i := 7) (v := _) rfl (by kernel_rfl) (by kernel_rfl) (by kernel_rfl) (fun _ _ _ h => h) (Or.inl ⟨by rfl, ?hy7⟩) hHeld ?_
      case hy7 => (intro w hSw; (try dsimp only at hSw); go_simp; (try with_reducible rfl))
      (try simp only [Act.put, List.getElem_toArray, List.getElem_cons_succ, List.getElem_cons_zero, List.setIfInBounds_toArray, List.set_cons_zero, List.set_cons_succ])
      refine' wpAnyH_take (i := 10) (v := _) rfl (by kernel_rfl) (by kernel_rfl) (by kernel_rfl) (fun _ _ _ h => h) (Or.inl ⟨by rfl, ?hy10⟩) hHeld ?_
      case hy10 => (intro w hSw; (try dsimp only at hSw); go_simp; (try with_reducible rfl))
      (try simp only [Act.put, List.getElem_toArray, List.getElem_cons_succ, List.getElem_cons_zero, List.setIfInBounds_toArray, List.set_cons_zero, List.set_cons_succ])
      refine wpAnyH_ready (rs := [8]) (by kernel_rfl) (by simp) ?_
      refine AllReadyH.cons rfl (fun K hK => ?_) AllReadyH.nil
      go_simp
      (go_at_call 25; refine (HAX.out _ hHeld).mono ?_; rintro e v1 ⟨g1, rfl, hg1, hB1, hb1⟩)
      refine hK.out _ _ (hHeld.trans (hb1.mono hHeld.size)) (fun hHeld => ?_)
      clear hK K
      (try simp only [Act.put, List.getElem_toArray, List.getElem_cons_succ, List.getElem_cons_zero, List.setIfInBounds_toArray, List.set_cons_zero, List.set_cons_succ])
      have HB1 := Lib.hid hB1
      have f1 := fun W (hb : Below v1.heap.size v1 W) => conv_B (IsC.after HB1.out hb) HBD.out 256
      have HH1 := Lib.hid hHeld
      clear HAX hB1 hb1
      refine wpAnyH_mono (S' := fun w' => Below v1.heap.size v1 w') (fun _ h => HH1.out.trans (h.mono HH1.out.size)) _ _ _ _ ?_
      replace hHeld := Below.refl v1.heap.size v1
      refine' wpAnyH_take (i := 9) (v := _) rfl (by kernel_rfl) (by kernel_rfl) (by kernel_rfl) (fun _ _ _ h => h) (Or.inl ⟨by rfl, ?hy9⟩) hHeld ?_
      case hy9 => (intro w hSw; (try dsimp only at hSw); go_simp; (try with_reducible rfl))
      (try simp only [Act.put, List.getElem_toArray, List.getElem_cons_succ, List.getElem_cons_zero, List.setIfInBounds_toArray, List.set_cons_zero, List.set_cons_succ])
      refine wpAnyH_ready (rs := [11]) (by kernel_rfl) (by simp) ?_
      refine AllReadyH.cons rfl (fun K hK => ?_) AllReadyH.nil
      go_simp
      (go_at_call 25; refine (HAY.out _ (HH1.out.trans (hHeld.mono HH1.out.size))).mono ?_; rintro e v2 ⟨g2, rfl, hg2, hB2, hb2⟩)
      refine hK.out _ _ (hHeld.trans (hb2.mono hHeld.size)) (fun hHeld => ?_)
      clear hK K
      (try simp only [Act.put, List.getElem_toArray, List.getElem_cons_succ, List.getElem_cons_zero, List.setIfInBounds_toArray, List.set_cons_zero, List.set_cons_succ])
      have f2 := fun W (hb : Below v2.heap.size v2 W) => conv_B (IsC.after hB2 hb) HBD.out 256
      have HH2 := Lib.hid hHeld
      clear HAY hB2 hb2 f1
      refine wpAnyH_mono (S' := fun w' => Below v2.heap.size v2 w') (fun _ h => HH2.out.trans (h.mono HH2.out.size)) _ _ _ _ ?_
      replace hHeld := Below.refl v2.heap.size v2
      refine' wpAnyH_take (i := 12) (v := _) rfl (by kernel_rfl) (by kernel_rfl) (by kernel_rfl) (fun _ _ _ h => h) (Or.inl ⟨by rfl, ?hy12⟩) hHeld ?_
      case hy12 => (intro w hSw; (try dsimp only at hSw); go_simp; (try with_reducible rfl))
      (try simp only [Act.put, List.getElem_toArray, List.getElem_cons_succ, List.getElem_cons_zero, List.setIfInBounds_toArray, List.set_cons_zero, List.set_cons_succ])
      refine' wpAnyH_take (i := 13) (v := _) rfl (by kernel_rfl) (by kernel_rfl) (by kernel_rfl) (fun _ _ _ h => h) (Or.inl ⟨by rfl, ?hy13⟩) hHeld ?_
      case hy13 => (intro w hSw; (try dsimp only at hSw); go_simp; (try with_reducible rfl))
      (try simp only [Act.put, List.getElem_toArray, List.getElem_cons_succ, List.getElem_cons_zero, List.setIfInBounds_toArray, List.set_cons_zero, List.set_cons_succ])
      refine' wpAnyH_take (i := 14) (v := _) rfl (by kernel_rfl) (by kernel_rfl) (by kernel_rfl) (fun _ _ _ h => h) (Or.inl ⟨by rfl, ?hy14⟩) hHeld ?_
      case hy14 => (intro w hSw; (try dsimp only at hSw); go_simp; (try with_reducible rfl))
      (try simp only [Act.put, List.getElem_toArray, List.getElem_cons_succ, List.getElem_cons_zero, List.setIfInBounds_toArray, List.set_cons_zero, List.set_cons_succ])
      refine' wpAnyH_take (i := 15) (v := _) rfl (by kernel_rfl) (by kernel_rfl) (by kernel_rfl) (fun _ _ _ h => h) (Or.inl ⟨by rfl, ?hy15⟩) hHeld ?_
      case hy15 => (intro w hSw; (try dsimp only at hSw); go_simp; (try with_reducible rfl))
      (try simp only [Act.put, List.getElem_toArray, List.getElem_cons_succ, List.getElem_cons_zero, List.setIfInBounds_toArray, List.set_cons_zero, List.set_cons_succ])
      refine' wpAnyH_take (i := 16) (v := _) rfl (by kernel_rfl) (by kernel_rfl) (by kernel_rfl) (fun _ _ _ h => h) (Or.inl ⟨by rfl, ?hy16⟩) hHeld ?_
      case hy16 => (intro w hSw; (try dsimp only at hSw); go_simp; (try with_reducible rfl))
      (try simp only [Act.put, List.getElem_toArray, List.getElem_cons_succ, List.getElem_cons_zero, List.setIfInBounds_toArray, List.set_cons_zero, List.set_cons_succ])
      refine' wpAnyH_take (i := 18) (v := _) rfl (by kernel_rfl) (by kernel_rfl) (by kernel_rfl) (fun _ _ _ h => h) (Or.inl ⟨by rfl, ?hy18⟩) hHeld ?_
      case hy18 => (intro w hSw; (try dsimp only at hSw); go_simp; (try with_reducible rfl))
      (try simp only [Act.put, List.getElem_toArray, List.getElem_cons_succ, List.getElem_cons_zero, List.setIfInBounds_toArray, List.set_cons_zero, List.set_cons_succ])
      have HS2 := Lib.hid (show ∀ W, Below v2.heap.size v2 W → Below W0.heap.size W0 W from fun W h => (HH1.out.trans (HH2.out.mono HH1.out.size)).trans (h.mono (Nat.le_trans HH1.out.size HH2.out.size)))
      clear f2
      refine wpAnyH_ready (rs := [17]) (by kernel_rfl) (by simp) ?_
      refine AllReadyH.cons rfl (fun K hK => ?_) AllReadyH.nil
      go_simp
      (go_at_call 27; refine (HTX.out _ (HS2.out _ hHeld)).mono ?_; rintro e v3 ⟨A3, c3, rfl, ho3, hb3⟩)
      refine hK.out _ _ (hHeld.trans (hb3.mono hHeld.size)) (fun hHeld => ?_)
      clear hK K
      (try simp only [Act.put, List.getElem_toArray, List.getElem_cons_succ, List.getElem_cons_zero, List.setIfInBounds_toArray, List.set_cons_zero, List.set_cons_succ])
      have HO3 := Lib.hid ho3
      clear HTX ho3 hb3
      refine wpAnyH_ready (rs := [19]) (by kernel_rfl) (by simp) ?_
      refine AllReadyH.cons rfl (fun K hK => ?_) AllReadyH.nil
      go_simp
      (go_at_call 27; refine (HTY.out _ (HS2.out _ hHeld)).mono ?_; rintro e v4 ⟨A4, c4, rfl, ho4, hb4⟩)
      refine hK.out _ _ (hHeld.trans (hb4.mono hHeld.size)) (fun hHeld => ?_)
      clear hK K
      (try simp only [Act.put, List.getElem_toArray, List.getElem_cons_succ, List.getElem_cons_zero, List.setIfInBounds_toArray, List.set_cons_zero, List.set_cons_succ])
      have HO4 := Lib.hid ho4
      have HR3 := Lib.hid (((Rd.of_own HO3.out).below hb4).more hb4.size)
      clear HTY ho4 hb4
      refine wpAnyH_ready (rs := [20]) (by kernel_rfl) (by simp) ?_
      refine AllReadyH.cons rfl (fun K hK => ?_) AllReadyH.nil
      go_simp
      (go_at_call 26; refine (same_any A3 A4 ln c3 c4 L HLN.out (by omega) _ HR3.out (Rd.of_own HO4.out)).mono ?_; rintro e v5 ⟨rfl, hb5⟩)
      refine hK.out _ _ (hHeld.trans (hb5.mono hHeld.size)) (fun hHeld => ?_)
      clear hK K
      (try simp only [Act.put, List.getElem_toArray, List.getElem_cons_succ, List.getElem_cons_zero, List.setIfInBounds_toArray, List.set_cons_zero, List.set_cons_succ])
      clear HR3 HO3 HO4 hb5
      refine' wpAnyH_take (i := 21) (v := _) rfl (by kernel_rfl) (by kernel_rfl) (by kernel_rfl) (fun _ _ _ h => h) (Or.inl ⟨by rfl, ?hy21⟩) hHeld ?_
      case hy21 => (intro w hSw; (try dsimp only at hSw); go_simp; (try with_reducible rfl))
      (try simp only [Act.put, List.getElem_toArray, List.getElem_cons_succ, List.getElem_cons_zero, List.setIfInBounds_toArray, List.set_cons_zero, List.set_cons_succ])
      refine' wpAnyH_take (i := 22) (v := _) rfl (by kernel_rfl) (by kernel_rfl) (by kernel_rfl) (fun _ _ _ h => h) (Or.inl ⟨by rfl, ?hy22⟩) hHeld ?_
      case hy22 => (intro w hSw; (try dsimp only at hSw); go_simp; (try with_reducible rfl))
      (try simp only [Act.put, List.getElem_toArray, List.getElem_cons_succ, List.getElem_cons_zero, List.setIfInBounds_toArray, List.set_cons_zero, List.set_cons_succ])
      refine wpAnyH_ready (rs := [23]) (by kernel_rfl) (by simp) ?_
      refine AllReadyH.cons rfl (fun K hK => ?_) AllReadyH.nil
      go_simp
      (go_at_call 15; refine (known_any _).mono ?_; rintro e v6 ⟨rfl, hb6⟩)
      refine hK.out _ _ (hHeld.trans (hb6.mono hHeld.size)) (fun hHeld => ?_)
      clear hK K
      (try simp only [Act.put, List.getElem_toArray, List.getElem_cons_succ, List.getElem_cons_zero, List.setIfInBounds_toArray, List.set_cons_zero, List.set_cons_succ])
      clear hb6
      refine' wpAnyH_take (i := 24) (v := _) rfl (by kernel_rfl) (by kernel_rfl) (by kernel_rfl) (fun _ _ _ h => h) (Or.inl ⟨by rfl, ?hy24⟩) hHeld ?_
      case hy24 => (intro w hSw; (try dsimp only at hSw); go_simp; (try with_reducible rfl))
      (try simp only [Act.put, List.getElem_toArray, List.getElem_cons_succ, List.getElem_cons_zero, List.setIfInBounds_toArray, List.set_cons_zero, List.set_cons_succ])
      refine' wpAnyH_take (i := 25) (v := _) rfl (by kernel_rfl) (by kernel_rfl) (by kernel_rfl) (fun _ _ _ h => h) (Or.inl ⟨by rfl, ?hy25⟩) hHeld ?_
      case hy25 => (intro w hSw; (try dsimp only at hSw); go_simp; (try with_reducible rfl))
      (try simp only [Act.put, List.getElem_toArray, List.getElem_cons_succ, List.getElem_cons_zero, List.setIfInBounds_toArray, List.set_cons_zero, List.set_cons_succ])
      refine wpAnyH_done (by kernel_rfl) ?_ _
      have HF := Lib.hid (HS2.out _ hHeld)
      clear hHeld HS2
      go_wp2_with fail
      go_ret
      exact ⟨rfl, HB0.out.trans (HF.out.mono hz6)⟩
end Go.Proofs.Ytgohmchodgoceaa

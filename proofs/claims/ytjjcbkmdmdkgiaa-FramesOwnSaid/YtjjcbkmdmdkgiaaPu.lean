/-
  innkeeperref5's Take: A CONTRACT.
-/
import Derived.Test.YtjjcbkmdmdkgiaaPt
namespace Go.Proofs.Ytjjcbkmdmdkgiaa
open Go.RowKit
set_option linter.unusedSimpArgs false
set_option linter.unusedVariables false
section
variable {g : Nat} {S : Po}
set_option maxRecDepth 100000 in
set_option maxHeartbeats 1000000 in
theorem rtake_any (o : Int) (w : World) (hP : IsR w g S) :
    Calls Try.prog 24 #[.pointer (some ⟨g, 0, none⟩), .int .i64 o] w (Rtaken S g o w) := by
  have hh := rowner_any o
  have HP := Lib.hid hP
  have hz := hP.z
  unfold Rtaken
  rcases take_cases S o with ⟨ho, e1, e2, e3⟩ | ⟨ho, h1, e1, e2, e3⟩ | hrest
  · rw [e1, e2, e3]
    rw [ho] at hh
    have HH := Lib.hid hh
    clear hh hP e1 e2 e3 ho
    go_enter Try.func24, Try.ntmps24
    go_wp2_with (go_at_call 36; refine (HH.out _).mono ?_; rintro e w' ⟨rfl, rfl⟩)
    go_ret2
    exact ⟨rfl, HP.out, Turn.refl _ _ _⟩
  · rw [e1, e2, e3]
    rw [ho] at hh
    have HH := Lib.hid hh
    obtain ⟨k, rfl, hk⟩ := oB_true ho
    rw [Int.toNat_natCast] at h1
    have hc := hP.pr k hk
    have HHD := Lib.hid (fun (W : World) (h : Below w.heap.size w W) => rheld_any (k : Int) W (hP.below h))
    unfold Held at HHD
    have hn := heldL_le S k 256
    generalize hm : (S.heldL (↑k) 256).length = n at *
    have h1 : S.prom k ≤ (n : Int) := by unfold pos at h1; split at h1 <;> omega
    generalize S.prom k = x at *
    clear hh hP e1 e2 e3 ho hm
    have hk0 : (0 : Int) ≤ (k : Int) := by omega
    have hk1 : (k : Int) < 4 := by omega
    go_enter Try.func24, Try.ntmps24
    go_wp2_with (go_at_call 36; refine (HH.out _).mono ?_; rintro e w' ⟨rfl, rfl⟩)
    go_region_held3 (fun w' => w'.cell? ⟨g, 256 + k, none⟩ = some (.int .i64 x) ∧ Below w.heap.size w w')
      (first | exact ⟨hc, (Below.refl _ _).drew⟩ | assumption | (refine held_keep hz ?_ hb; assumption))
      ((go_at_call 28; refine (HHD.out _ (by go_split_ands; assumption)).mono ?_; rintro e w1 ⟨A, c, rfl, hO, hb⟩))
    have hB : Below w.heap.size w w1 := by go_split_ands; assumption
    have HB := Lib.hid hB
    have HP1 := Lib.hid (HP.out.below hB)
    have hz1 := hB.size
    go_split_ands
    clear hb hB
    go_wp2
    go_ret2
    exact ⟨rfl, HP1.out, Turn.of_below HB.out⟩
  · have hx : oB o = true ∧ ((S.heldL o 256).length : Int) < pos (S.prom o.toNat) := by
      rcases hrest with ⟨h1, h2, _⟩ | ⟨h1, h2, _⟩ <;> exact ⟨h1, h2⟩
    obtain ⟨ho, h1⟩ := hx
    rw [ho] at hh
    have HH := Lib.hid hh
    obtain ⟨k, rfl, hk⟩ := oB_true ho
    rw [Int.toNat_natCast] at h1
    have hc := hP.pr k hk
    have HHD := Lib.hid (fun (W : World) (h : Below w.heap.size w W) => rheld_any (k : Int) W (hP.below h))
    unfold Held at HHD
    have hn := heldL_le S k 256
    have hrest2 : (S.lowF = none ∧ S.takeE k = 13 ∧ S.takeF k = 0 ∧ S.takeS k = S) ∨ (∃ f, S.lowF = some f ∧ S.takeE k = 0 ∧ S.takeF k = f ∧ S.takeS k = S.tk f k) := by
      rcases hrest with ⟨_, _, h3⟩ | ⟨_, _, h3⟩
      · exact .inl h3
      · exact .inr h3
    have HX := Lib.hid hrest2
    have HZ := Lib.hid buildB
    have hsz : (List.replicate 64 (Value.int .u8 0)).toArray.size = 64 := by rw [List.size_toArray]; exact List.length_replicate
    have hto : (List.replicate 64 (Value.int .u8 0)).toArray.toList.length = 64 := by rw [List.toList_toArray]; exact List.length_replicate
    have HSZ := Lib.hid hsz
    have HO1 := Lib.hid (all_oneCell_toArray (cs := List.replicate 64 (Value.int .u8 0)) (fun v hv => by rw [List.eq_of_mem_replicate hv]; rfl))
    have HSZ2 := Lib.hid (show (Try.prog.info? 53).map (·.size) = some (List.replicate 64 (Value.int .u8 0)).toArray.size by rw [hsz]; kernel_rfl)
    have HTO := Lib.hid hto
    clear hrest hrest2 hsz hto
    generalize (List.replicate 64 (Value.int .u8 0)).toArray = Z at *
    generalize hm : (S.heldL (↑k) 256).length = n at *
    have h1 : (n : Int) < S.prom k := by unfold pos at h1; split at h1 <;> omega
    have hpb : S.prom k ≤ 64 := by have := HP.out.good.prom k; omega
    generalize S.prom k = x at *
    clear hh hP ho hm
    have hk0 : (0 : Int) ≤ (k : Int) := by omega
    have hk1 : (k : Int) < 4 := by omega
    go_enter Try.func24, Try.ntmps24
    go_wp2_with (go_at_call 36; refine (HH.out _).mono ?_; rintro e w' ⟨rfl, rfl⟩)
    go_region_held3 (fun w' => w'.cell? ⟨g, 256 + k, none⟩ = some (.int .i64 x) ∧ Below w.heap.size w w')
      (first | exact ⟨hc, (Below.refl _ _).drew⟩ | assumption | (refine held_keep hz ?_ hb; assumption))
      ((go_at_call 28; refine (HHD.out _ (by go_split_ands; assumption)).mono ?_; rintro e w1 ⟨A, c, rfl, hO, hb⟩))
    have hB : Below w.heap.size w w1 := by go_split_ands; assumption
    have HB := Lib.hid hB
    have HP1 := Lib.hid (HP.out.below hB)
    have hz1 := hB.size
    go_split_ands
    clear hb hB hO hc
    have hkk : k < 4 := by omega
    have HK := Lib.hid hkk
    clear hkk
    rcases HX.out with ⟨hl, e1, e2, e3⟩ | ⟨f, hl, e1, e2, e3⟩
    · have HL := Lib.hid (lowF_none hl)
      have HE := Lib.hid (And.intro e1 (And.intro e2 e3))
      clear hl e1 e2 e3
      go_wp2
      go_loop [6] (fun i => ∃ q : Nat, 16 ≤ q ∧ q ≤ 256 ∧ i = .int .i64 q) (fun i => 256 - (intOf i).toNat)
      case atStart => exact ⟨16, by omega, by omega, rfl⟩
      case round =>
        obtain ⟨q, hq0, hq, rfl⟩ := hrel
        by_cases hlt : q < 256
        · have hcq := HP1.out.ow q hlt
          have hge : 0 ≤ S.own q := by simpa [neB] using HL.out q hq0 hlt
          generalize S.own q = y at *
          have HQ := Lib.hid hq0
          clear hq0
          go_wp2
          go_round
          case rel => exact ⟨q + 1, by have := HQ.out; omega, by omega, by go_num⟩
          case measure => simp [intOf]; omega
        · obtain rfl : q = 256 := by omega
          clear hq hlt hq0
          go_wp2
          go_ret2
          exact ⟨ret_two (by rw [HE.out.2.1]; rfl) HE.out.1.symm, by rw [HE.out.2.2]; exact HP1.out, Turn.of_below HB.out⟩
    · obtain ⟨l1, l2, l3, l4⟩ := lowF_some hl
      have HL := Lib.hid l4
      have HE := Lib.hid (And.intro e1 (And.intro e2 e3))
      have H16 := Lib.hid l1
      clear hl e1 e2 e3 l4
      go_wp2
      go_loop [6] (fun i => ∃ q : Nat, 16 ≤ q ∧ q ≤ f ∧ i = .int .i64 q) (fun i => 256 - (intOf i).toNat)
      case atStart => exact ⟨16, by omega, l1, rfl⟩
      case round =>
        clear l1
        obtain ⟨q, hq0, hq, rfl⟩ := hrel
        have hlt : q < 256 := by omega
        have hcq := HP1.out.ow q hlt
        by_cases hqf : q < f
        · have hge : 0 ≤ S.own q := by simpa [neB] using HL.out q hq0 hqf
          generalize S.own q = y at *
          have HQ := Lib.hid hq0
          have HQF := Lib.hid hqf
          clear hq0 hqf
          go_wp2
          go_round
          case rel => exact ⟨q + 1, by have := HQ.out; omega, by have := HQF.out; omega, by go_num⟩
          case measure => simp [intOf]; omega
        · obtain rfl : q = f := by omega
          have hlt0 : S.own q < 0 := by simpa [neB] using l3
          have hfr := HP1.out.fr q
          have HG := Lib.hid HP.out.good
          have HSET := Lib.hid (HP1.out.setOwn q hlt k (.inr ⟨H16.out, by omega, by have := HK.out; omega⟩) (upd S.byte q (fun _ => 0)) (fun f a => by
            by_cases e : f = q
            · subst e; simp
            · simp only [upd_other _ _ _ _ e]; exact HG.out.byte f a))
          have HT2 := Lib.hid (show (w1.setCell ⟨g, q, none⟩ (.int .i64 k)).there g (260 + q * 64) 64 from fun j hj => ⟨by
            rw [show 260 + q * 64 + j = 260 + (q * 64 + j) by omega]; exact HSET.out.bt _ (by omega), HSET.out.fr _⟩)
          clear hq hqf hq0 l3
          generalize S.own q = y at *
          go_wp2_with (first
            | (refine wpList_build rfl 53 #[] (by rfl) [] (by rfl) (.agg Z) (HZ.out _) ?_)
            | (refine wpList_store_mid rfl 53 _ _ rfl g (260 + q * 64) Z (by rfl) (by rfl) (by rw [HSZ.out]; exact HT2.out) HSZ2.out HO1.out ?_))
          go_ret2
          refine ⟨ret_two (by rw [HE.out.2.1]) HE.out.1.symm, ?_, ?_⟩
          · rw [HE.out.2.2]
            exact HSET.out.setBytes (q * 64) _ (by rw [HTO.out]; omega) _ HSET.out.good.byte
          · exact ((Turn.of_below HB.out).trans ((Turn.refl _ _ _).setG _ _)).trans (Turn.setsG _ _ (Turn.refl _ _ _))
end
end Go.Proofs.Ytjjcbkmdmdkgiaa

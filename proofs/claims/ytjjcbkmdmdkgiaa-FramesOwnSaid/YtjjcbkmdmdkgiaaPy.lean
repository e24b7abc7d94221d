/-
  innkeeperref5's Drop; innkeeperlaw5's known; innkeeperbook's Within, Same: A CONTRACT EACH.
-/
import Derived.Test.YtjjcbkmdmdkgiaaPx
namespace Go.Proofs.Ytjjcbkmdmdkgiaa
open Go.RowKit
set_option linter.unusedSimpArgs false
set_option linter.unusedVariables false

section
variable {g : Nat} {S : Po}
set_option maxRecDepth 100000 in
set_option maxHeartbeats 1000000 in
theorem rdrop_any (o : Int) (w : World) (hP : IsR w g S) :
    Calls Try.prog 26 #[.pointer (some ⟨g, 0, none⟩), .int .i64 o] w (Rdropd S g o w) := by
  have hh := rowner_any o
  have HP := Lib.hid hP
  have hz := hP.z
  unfold Rdropd
  cases ho : oB o
  · have e1 : S.dropV o = 0 := by unfold Po.dropV; rw [if_neg (by simp [ho])]
    have e2 : S.dropS o = S := by unfold Po.dropS; rw [if_neg (by simp [ho])]
    rw [e1, e2]
    rw [ho] at hh
    have HH := Lib.hid hh
    clear hh hP e1 e2 ho
    go_enter Try.func26, Try.ntmps26
    go_wp2_with (go_at_call 36; refine (HH.out _).mono ?_; rintro e w' ⟨rfl, rfl⟩)
    go_ret
    exact ⟨rfl, HP.out, Turn.refl _ _ _⟩
  · have e1 : S.dropV o = (S.heldL o 256).length := by unfold Po.dropV; rw [if_pos ho]
    have e2 : S.dropS o = { S.rel (S.heldL o 256) with prom := upd S.prom o.toNat (-1) } := by unfold Po.dropS; rw [if_pos ho]
    rw [e1, e2]
    rw [ho] at hh
    have HH := Lib.hid hh
    obtain ⟨k, rfl, hk⟩ := oB_true ho
    rw [Int.toNat_natCast]
    have HD := Lib.hid (rheld_any (k : Int) w hP)
    unfold Held at HD
    have hle := heldL_le S k 256
    have HM := Lib.hid (fun f => heldL_mem (S := S) (o := (k : Int)) (k := 256) (f := f))
    have HK := Lib.hid hk
    generalize hl : S.heldL (↑k) 256 = L at *
    generalize hn : L.length = n at *
    have HNL := Lib.hid hn
    clear hh hP e1 e2 ho hl hn
    go_enter Try.func26, Try.ntmps26
    go_wp2_with (first
      | (go_at_call 36; refine (HH.out _).mono ?_; rintro e w' ⟨rfl, rfl⟩)
      | (go_at_call 28; refine HD.out.mono ?_; rintro e w1 ⟨A, c, rfl, hO, hb⟩
         have HO := Lib.hid hO
         have HB := Lib.hid hb
         clear hO hb))
    go_loopw [6] (fun i wx => ∃ j : Nat, j ≤ n ∧ i = .int .i64 j ∧ Hid (IsR wx g (S.rel (L.take j))) ∧ Hid (Turn g g w1 wx)) (fun i _ => n - (intOf i).toNat)
    case atStart => exact ⟨0, by omega, rfl, Lib.hid (HP.out.below HB.out), Lib.hid (Turn.refl _ _ _)⟩
    case round =>
      obtain ⟨j, hj, rfl, hW, hT⟩ := hrel
      have hzz := hW.out.z
      by_cases hlt : j < n
      · have hkl : j < L.length := by have := HNL.out; omega
        obtain ⟨b, off, rfl, hbg, hb, hc⟩ := ((Rdx.of_own HO.out hz).turn hT.out) (by rw [nv_len]; omega)
        have hck := hc j _ (nv_get hkl)
        have hq := ((HM.out _).1 (List.getElem_mem hkl)).1
        have hs := rel_take S L j hkl
        have HS := Lib.hid hs
        clear hc hs
        generalize L[j] = q at *
        have hset := hW.out.give q hq
        have HSET := Lib.hid hset
        have hco := hW.out.ow q hq
        have hfo := hW.out.fr q
        have hj0 : (0 : Int) ≤ (j : Int) := by omega
        have hjn : (j : Int) < (n : Int) := by omega
        have hq0 : (0 : Int) ≤ (q : Int) := by omega
        have hqi : (q : Int) < 256 := by omega
        clear hset hkl
        generalize (S.rel (L.take j)).own q = y at *
        go_wp2
        go_region
        all_goals
          go_wp2
          go_roundw
          case rel => exact ⟨j + 1, by omega, by go_num, Lib.hid (by rw [HS.out]; first | exact HSET.out | exact HSET.out.below ((Below.refl _ _).drew)), Lib.hid ((hT.out.drew).setG _ _)⟩
          case measure => simp [intOf]; omega
      · obtain rfl : j = n := by omega
        have hW2 := hW.out
        rw [← HNL.out, List.take_length] at hW2
        have hc := hW2.pr k hk
        have hf := hW2.fr (256 + k)
        have HW2 := Lib.hid (hW2.setProm k hk (-1) (.inl rfl))
        rw [rel_prom] at HW2
        clear hj hlt hW2 hW
        generalize (S.rel L).prom k = y at *
        go_wp2
        go_ret
        exact ⟨rfl, HW2.out, ((Turn.of_below HB.out).trans hT.out).trans ((Turn.refl _ _ _).setG _ _)⟩
end


theorem IsP.far {w : World} {g : Nat} {S : Po} (X : IsP w g S) {p : Addr} (hp : g ≠ p.block) (v : Value) : IsP (w.setCell p v) g S := X.keep (Below.heap_setCell w p v g hp)
/-- a slice of one number that was made for a call -/
theorem one_rdx (w : World) (g : Nat) (hg : g < w.heap.size) (x : Int) (T : TypeId) : Rdx (w.alloc (.cells #[.int .i64 x] T)) g (some ⟨w.heap.size, 0, none⟩) (iv [x]) := fun _ => by
  refine ⟨w.heap.size, 0, rfl, by omega, by simp, fun j u hu => ?_⟩
  rw [(Blk.new w T _).cell, Nat.zero_add]
  simpa [iv] using hu
/-! ### known -/
theorem kn1 : po0.promV 1 2 = 0 := by decide +kernel
theorem kn2 : (po0.promS 1 2).takeE 1 = 0 ∧ (po0.promS 1 2).takeF 1 = 16 := by decide +kernel
theorem kn3 : ((po0.promS 1 2).takeS 1).takeE 1 = 0 ∧ ((po0.promS 1 2).takeS 1).takeF 1 = 17 := by decide +kernel
theorem kn4 : (((po0.promS 1 2).takeS 1).takeS 1).takeE 1 = 13 := by decide +kernel
set_option maxRecDepth 100000 in
set_option maxHeartbeats 1000000 in
theorem known_any (w : World) :
    Calls Try.prog 11 #[] w fun e w' => e = .returned (.bool true) ∧ Below w.heap.size w w' := by
  go_enter Try.func11, Try.ntmps11
  go_wp2_with fail
  refine (newP_any _).mono ?_
  rintro e w1 ⟨rfl, hp1, hb1⟩
  have HP1 := Lib.hid hp1
  have HB1 := Lib.hid hb1
  clear hp1 hb1
  go_wp2_with fail
  refine (promise_any 1 2 _ HP1.out).mono ?_
  rintro e w2 ⟨rfl, hp2, ht2⟩
  rw [kn1]
  have HP2 := Lib.hid hp2
  have HB2 := Lib.hid (ht2.below (Nat.le_refl _) (Nat.le_refl _) HB1.out HB1.out.size)
  clear hp2 ht2 HP1 HB1
  go_wp2_with fail
  refine (take_any 1 _ HP2.out).mono ?_
  rintro e w3 ⟨rfl, hp3, ht3⟩
  rw [kn2.1, kn2.2]
  have HP3 := Lib.hid hp3
  have HB3 := Lib.hid (ht3.below (Nat.le_refl _) (Nat.le_refl _) HB2.out HB2.out.size)
  clear hp3 ht3 HP2 HB2
  go_wp2_with fail
  refine (take_any 1 _ HP3.out).mono ?_
  rintro e w4 ⟨rfl, hp4, ht4⟩
  rw [kn3.1, kn3.2]
  have HP4 := Lib.hid hp4
  have HB4 := Lib.hid (ht4.below (Nat.le_refl _) (Nat.le_refl _) HB3.out HB3.out.size)
  clear hp4 ht4 HP3 HB3
  go_wp2_with fail
  refine (take_any 1 _ HP4.out).mono ?_
  rintro e w5 ⟨rfl, hp5, ht5⟩
  rw [kn4]
  have HB5 := Lib.hid (ht5.below (Nat.le_refl _) (Nat.le_refl _) HB4.out HB4.out.size)
  clear hp5 ht5 HP4 HB4
  go_wp2_with fail
  go_ret
  exact ⟨rfl, HB5.out⟩
end Go.Proofs.Ytjjcbkmdmdkgiaa

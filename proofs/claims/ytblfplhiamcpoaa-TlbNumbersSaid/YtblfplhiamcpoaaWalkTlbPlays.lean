/-
  innkeeperlaw9.TlbPlays returns true: its walk.
-/
import Derived.Test.YtblfplhiamcpoaaBd
import Derived.Test.YtblfplhiamcpoaaBk
import Derived.Test.YtblfplhiamcpoaaRowT
namespace Go.Proofs.Ytblfplhiamcpoaa
open Go.RowKit
set_option linter.unusedSimpArgs false
set_option linter.unusedVariables false

/-- both are new -/
theorem both_new {w w1 w2 : World} (h1 : IsE w1 w.heap.size 0 (fun _ => en0)) (z1 : w.heap.size < w1.heap.size) (hb2 : Below w1.heap.size w1 w2) (h2 : IsE w2 w1.heap.size 1 (fun _ => en0)) : Both w2 w.heap.size w1.heap.size (fun _ => en0) :=
  ⟨h1.below hb2, h2, by omega⟩
set_option maxRecDepth 100000 in
set_option maxHeartbeats 4000000 in
theorem tlbPlays_walk (A0 : Option Addr) (len0 cap0 : Nat) (L0 : List Av) (w : World) (w0 : RowT w A0 len0 cap0 L0) :
    Calls Try.prog 4 #[.slice A0 len0 cap0] w fun e w' => e = .returned (.bool true) ∧ Below w.heap.size w w' := by
  obtain ⟨hlen, hl0, hc0, hA0, hcells, hin⟩ := w0
  have HLEN := Lib.hid hlen
  have HC := Lib.hid hcells
  have HIN := Lib.hid hin
  unfold maxLen at hc0
  clear hlen hcells hin hA0
  go_enter Try.func4, Try.ntmps4
  go_wp2_with (first
    | (go_at_call 8
       refine (new_any _).mono ?_
       rintro e w1 ⟨rfl, hE1, hB1, hz1⟩
       have HE1 := Lib.hid hE1
       have HB1 := Lib.hid hB1
       have HZ1 := Lib.hid hz1
       clear hE1 hB1 hz1)
    | (go_at_call 9
       refine (rnew_any _).mono ?_
       rintro e w2 ⟨rfl, hE2, hB2, hz2⟩
       have HD := Lib.hid (both_new HE1.out HZ1.out hB2 hE2)
       have HB2 := Lib.hid (HB1.out.trans (hB2.mono (Nat.le_of_lt HZ1.out)))
       clear hE2 hB2 hz2))
  have hgh : w.heap.size < w1.heap.size := HZ1.out
  clear HE1 HB1 HZ1
  generalize hG : w.heap.size = g at *
  generalize w1.heap.size = h at *
  have HG := Lib.hid hG
  clear hG
  go_loopw [5] (fun i wr => ∃ (k : Nat) (S : Nat → En), k ≤ 60 ∧ k ≤ len0 ∧ i = .int .i64 k ∧ Hid (Both wr g h S) ∧ Hid (Below g w wr)) (fun i _ => 60 - (intOf i).toNat)
  case atStart => exact ⟨0, _, by omega, by omega, rfl, HD, HB2⟩
  case round =>
    clear HD HB2
    obtain ⟨k, S, hk, hkn, rfl, hD, hB⟩ := hrel
    have hzg := hD.out.p.z
    have hzh := hD.out.u.z
    by_cases hlt : k < len0 ∧ k < 60
    · obtain ⟨h1, h2⟩ := hlt
      have hkl : k < L0.length := by have := HLEN.out; omega
      obtain ⟨b, off, rfl, hbg, hc⟩ := HC.out (by omega)
      have hbg' : b < g := by have := HG.out; omega
      have key := fun j u hu => (hB.out.cell (p := ⟨b, off + k * 6 + j, none⟩) hbg').trans (hc k hkl j u hu)
      have e0 := key 0 _ rfl
      have e1 := key 1 _ rfl
      have e2 := key 2 _ rfl
      have e3 := key 3 _ rfl
      have e4 := key 4 _ rfl
      have e5 := key 5 _ rfl
      rw [Nat.add_zero] at e0
      have hbw : b < wr.heap.size := by omega
      have hq := HIN.out _ (List.getElem_mem hkl)
      obtain ⟨v0, v1⟩ := u32_of_wf hq.va
      have hp := u32_of_wf hq.p
      have hb := u32_of_wf hq.b
      have ht : ((k : Int)).tmod 4 = ((k % 4 : Nat) : Int) := by rw [Int.tmod_eq_emod_of_nonneg (by omega)]; omega
      have hv : L0[k].va.tmod 4096 = L0[k].va % 4096 := Int.tmod_eq_emod_of_nonneg v0
      have hdo := fun (V : Int) (hV0 : 0 ≤ V) (hV1 : V < 4294967296) (W : World) (hW : Both W g h S) => do_any L0[k].k L0[k].hw V L0[k].p L0[k].b L0[k].s hV0 hV1 hp hb W hW
      unfold askV at hdo
      have hk0 : (0 : Int) ≤ (k : Int) := by omega
      have hk1 : (k : Int) < 60 := by omega
      have hk2 : (k : Int) < (len0 : Int) := by omega
      have HK := Lib.hid (And.intro h1 h2)
      have HDO := Lib.hid hdo
      clear hc key hq hp hb hdo h1 h2 HC HIN HLEN
      generalize L0[k] = q at *
      obtain ⟨qk, qh, qv, qp, qb, qs⟩ := q
      simp only at e0 e1 e2 e3 e4 e5 HDO v0 v1 hv
      clear hkl
      by_cases h4 : k % 4 = 0
      · rw [h4] at ht
        have HD0 := Lib.hid (hD.out.below ((Below.refl _ _).alloc (Nat.le_refl _) (.cells #[.int .i64 qk, .int .i64 qh, .int .u32 qv, .int .u32 qp, .int .u32 qb, .bool qs] 28)))
        have HB0 := Lib.hid (hB.out.trans (((Below.refl wr.heap.size wr).alloc (Nat.le_refl _) (.cells #[.int .i64 qk, .int .i64 qh, .int .u32 qv, .int .u32 qp, .int .u32 qb, .bool qs] 28)).mono (Nat.le_of_lt hzg)))
        have HF := Lib.hid (HDO.out qv v0 v1 _ HD0.out)
        unfold Did at HF
        clear HDO hD h4
        go_wp2_with (go_at_call 10
                     refine HF.out.mono ?_
                     rintro e w3 ⟨rfl, ⟨Y, hY⟩, hT3⟩
                     have HY := Lib.hid hY
                     have HB3 := Lib.hid (hT3.below (Nat.le_refl _) (Nat.le_of_lt hgh) HB0.out (by have := HB0.out.size; simp; omega))
                     clear hY hT3)
        go_roundw
        case rel => exact ⟨k + 1, Y, by have := HK.out; omega, by have := HK.out; omega, by go_num, HY, HB3⟩
        case measure => have := HK.out; simp [intOf]; omega
      · have h40 : (0 : Int) < ((k % 4 : Nat) : Int) := by omega
        generalize ((k % 4 : Nat) : Int) = m at *
        have hV0 : 0 ≤ qv % 4096 := by omega
        have hV1 : qv % 4096 < 4294967296 := by omega
        generalize qv % 4096 = V at *
        have HD0 := Lib.hid (hD.out.below ((Below.refl _ _).alloc (Nat.le_refl _) (.cells #[.int .i64 qk, .int .i64 qh, .int .u32 V, .int .u32 qp, .int .u32 qb, .bool qs] 28)))
        have HB0 := Lib.hid (hB.out.trans (((Below.refl wr.heap.size wr).alloc (Nat.le_refl _) (.cells #[.int .i64 qk, .int .i64 qh, .int .u32 V, .int .u32 qp, .int .u32 qb, .bool qs] 28)).mono (Nat.le_of_lt hzg)))
        have HF := Lib.hid (HDO.out V hV0 hV1 _ HD0.out)
        unfold Did at HF
        clear HDO hD h4
        go_wp2_with (go_at_call 10
                     refine HF.out.mono ?_
                     rintro e w3 ⟨rfl, ⟨Y, hY⟩, hT3⟩
                     have HY := Lib.hid hY
                     have HB3 := Lib.hid (hT3.below (Nat.le_refl _) (Nat.le_of_lt hgh) HB0.out (by have := HB0.out.size; simp; omega))
                     clear hY hT3)
        go_roundw
        case rel => exact ⟨k + 1, Y, by have := HK.out; omega, by have := HK.out; omega, by go_num, HY, HB3⟩
        case measure => have := HK.out; simp [intOf]; omega
    · have hx : len0 ≤ k ∨ 60 ≤ k := by omega
      clear hlt
      have HKN := Lib.hid (known_any wr)
      have HB0 := Lib.hid (show ∀ w', Below wr.heap.size wr w' → Below g w w' from fun w' hb => hB.out.trans (hb.mono (Nat.le_of_lt hzg)))
      have hkn2 : (len0 : Int) ≤ (k : Int) ∨ (60 : Int) ≤ (k : Int) := by omega
      rcases hkn2 with hx2 | hx2
      · go_wp2_with (go_at_call 11; refine HKN.out.mono ?_; rintro e w3 ⟨rfl, hb3⟩; have HB3 := Lib.hid (HB0.out _ hb3); clear hb3)
        go_ret
        have := HG.out
        subst this
        exact ⟨rfl, HB3.out⟩
      · by_cases hx3 : k < len0
        · have hx4 : (k : Int) < (len0 : Int) := by omega
          go_wp2_with (go_at_call 11; refine HKN.out.mono ?_; rintro e w3 ⟨rfl, hb3⟩; have HB3 := Lib.hid (HB0.out _ hb3); clear hb3)
          go_ret
          have := HG.out
          subst this
          exact ⟨rfl, HB3.out⟩
        · have hx4 : (len0 : Int) ≤ (k : Int) := by omega
          go_wp2_with (go_at_call 11; refine HKN.out.mono ?_; rintro e w3 ⟨rfl, hb3⟩; have HB3 := Lib.hid (HB0.out _ hb3); clear hb3)
          go_ret
          have := HG.out
          subst this
          exact ⟨rfl, HB3.out⟩
end Go.Proofs.Ytblfplhiamcpoaa

/-
  innkeeperlaw9.TlbKeeps returns true: its walk.
-/
import Derived.Test.YtblfplhiamcpoaaBk
import Derived.Test.YtblfplhiamcpoaaBn
import Derived.Test.YtblfplhiamcpoaaRowT
namespace Go.Proofs.Ytblfplhiamcpoaa
open Go.RowKit
set_option linter.unusedSimpArgs false
set_option linter.unusedVariables false

/-- with Read and User -/
def orB (b : Int) : Int := bits .or .u32 (bits .or .u32 b 2) 16
theorem orB_spec (b : Int) (h0 : 0 ≤ b) (h1 : b < 4294967296) : 0 ≤ orB b ∧ orB b < 4294967296 ∧ (bits .and .u32 (orB b) 2 == 2) = true ∧ (bits .and .u32 (orB b) 16 != 0) = true := by
  obtain ⟨n, rfl⟩ := Int.eq_ofNat_of_zero_le h0
  have hn : n < 4294967296 := by omega
  have l1 : n ||| 2 < 2 ^ 32 := Nat.or_lt_two_pow hn (by decide)
  have l2 : (n ||| 2) ||| 16 < 2 ^ 32 := Nat.or_lt_two_pow l1 (by decide)
  have e1 : orB (n : Int) = (((n ||| 2) ||| 16 : Nat) : Int) := by
    unfold orB
    have : bits .or .u32 (n : Int) 2 = ((n ||| 2 : Nat) : Int) := u32_or_nat n 2 hn (by omega)
    rw [this]
    exact u32_or_nat (n ||| 2) 16 (by omega) (by omega)
  rw [e1]
  have a1 : ((n ||| 2) ||| 16) &&& 2 = 2 := by
    rw [and_self_iff]; intro i hi
    rw [Nat.testBit_or, Nat.testBit_or, hi]; simp
  have a2 : ((n ||| 2) ||| 16) &&& 16 = 16 := by
    rw [and_self_iff]; intro i hi
    rw [Nat.testBit_or, hi]; simp
  have c1 : bits .and .u32 (((n ||| 2) ||| 16 : Nat) : Int) 2 = 2 := by
    have := u32_and_nat ((n ||| 2) ||| 16) 2 (by omega) (by omega)
    rw [a1] at this; exact this
  have c2 : bits .and .u32 (((n ||| 2) ||| 16 : Nat) : Int) 16 = 16 := by
    have := u32_and_nat ((n ||| 2) ||| 16) 16 (by omega) (by omega)
    rw [a2] at this; exact this
  rw [c1, c2]
  exact ⟨by omega, by omega, rfl, rfl⟩
/-- what was filled so is found -/
theorem fB_keep (V p b : Int) (h0 : 0 ≤ b) (h1 : b < 4294967296) (s : Bool) : fB ⟨true, V / 64, p, orB b⟩ V 2 s = true := by
  obtain ⟨o0, o1, o2, o3⟩ := orB_spec b h0 h1
  have n2 : nd0 2 = 2 := by decide
  cases s
  · rw [fB_user (e := ⟨true, V / 64, p, orB b⟩) rfl rfl ⟨o0, o1⟩ (.inr (.inl rfl)), n2]
    show ((bits .and .u32 (orB b) 2 == 2) && (bits .and .u32 (orB b) 16 != 0)) = true
    rw [o2, o3]; rfl
  · rw [fB_super (e := ⟨true, V / 64, p, orB b⟩) rfl rfl (.inr (.inl rfl)), n2]
    exact o2
set_option maxRecDepth 100000 in
set_option maxHeartbeats 4000000 in
theorem tlbKeeps_walk (A0 : Option Addr) (len0 cap0 : Nat) (L0 : List Av) (a1 : Bool) (w : World) (w0 : RowT w A0 len0 cap0 L0) :
    Calls Try.prog 5 #[.slice A0 len0 cap0, .bool a1] w fun e w' => e = .returned (.bool true) ∧ Below w.heap.size w w' := by
  obtain ⟨hlen, hl0, hc0, hA0, hcells, hin⟩ := w0
  have HLEN := Lib.hid hlen
  have HC := Lib.hid hcells
  have HIN := Lib.hid hin
  unfold maxLen at hc0
  clear hlen hcells hin hA0
  go_enter Try.func5, Try.ntmps5
  go_wp2_with (first
    | (go_at_call 8
       refine (new_any _).mono ?_
       rintro e w1 ⟨rfl, hE1, hB1, hz1⟩
       have HE1 := Lib.hid hE1
       have HB1 := Lib.hid hB1
       clear hE1 hB1 hz1))
  generalize hG : w.heap.size = g at *
  have HG := Lib.hid hG
  clear hG
  go_loopw [6] (fun i wr => ∃ (k : Nat) (S : Nat → En), k ≤ 60 ∧ k ≤ len0 ∧ i = .int .i64 k ∧ Hid (IsE wr g 0 S) ∧ Hid (Below g w wr)) (fun i _ => 60 - (intOf i).toNat)
  case atStart => exact ⟨0, _, by omega, by omega, rfl, HE1, HB1⟩
  case round =>
    clear HE1 HB1
    obtain ⟨k, S, hk, hkn, rfl, hE, hB⟩ := hrel
    have hzg := hE.out.z
    by_cases hlt : k < len0 ∧ k < 60
    · obtain ⟨h1, h2⟩ := hlt
      have hkl : k < L0.length := by have := HLEN.out; omega
      obtain ⟨b, off, rfl, hbg, hc⟩ := HC.out (by omega)
      have hbg' : b < g := by have := HG.out; omega
      have key := fun (W : World) (hW : Below g w W) j u hu => (hW.cell (p := ⟨b, off + k * 6 + j, none⟩) hbg').trans (hc k hkl j u hu)
      have hq := HIN.out _ (List.getElem_mem hkl)
      obtain ⟨v0, v1⟩ := u32_of_wf hq.va
      have hp := u32_of_wf hq.p
      have hb := u32_of_wf hq.b
      have hk0 : (0 : Int) ≤ (k : Int) := by omega
      have hk1 : (k : Int) < 60 := by omega
      have hk2 : (k : Int) < (len0 : Int) := by omega
      have hbw : b < wr.heap.size := by omega
      have HK := Lib.hid (And.intro h1 h2)
      clear hc hq h1 h2 HC HIN HLEN
      generalize L0[k] = q at *
      obtain ⟨qk, qh, V, p, bt, qs⟩ := q
      simp only at v0 v1 hp hb
      have e2 := key wr hB.out 2 _ rfl
      have e3 := key wr hB.out 3 _ rfl
      have e4 := key wr hB.out 4 _ rfl
      have hq : V.tdiv 64 = V / 64 := Int.tdiv_eq_ediv_of_nonneg v0
      have hv : V.tmod 64 = V % 64 := Int.tmod_eq_emod_of_nonneg v0
      obtain ⟨o0, o1, o2, o3⟩ := orB_spec bt hb.1 hb.2
      have hfl := fill_any ⟨true, V / 64, p, orB bt⟩ ⟨by show 0 ≤ V / 64; omega, by show V / 64 < 4294967296; omega⟩ hp ⟨o0, o1⟩ wr.drew (hE.out.drewN 1)
      unfold Lf En.ag at hfl
      have hY : fillS S ⟨true, V / 64, p, orB bt⟩ = upd S (sl (V / 64)) ⟨true, V / 64, p, orB bt⟩ := if_pos rfl
      rw [hY] at hfl
      have hfd : ∀ (s : Bool) (W : World), IsE W g 0 (upd S (sl (V / 64)) ⟨true, V / 64, p, orB bt⟩) → Calls Try.prog 13 #[.pointer (some ⟨g, 0, none⟩), .int .u32 V, .int .i64 2, .bool s] W fun r w' => r = .returned (.tuple #[.int .u32 (p * 64 % 4294967296 + V % 64), .bool true]) ∧ Below W.heap.size W w' := by
        intro s W hW
        have f := find_any V 2 v0 v1 s W hW
        unfold Fnd fV fA at f
        rw [upd_same, fB_keep V p bt hb.1 hb.2 s, if_pos rfl] at f
        rw [show p * 64 % 4294967296 + V % 64 = (p * 64 + V % 64) % 4294967296 by omega]
        exact f
      have hln : ∃ N : Nat, 1 ≤ N ∧ N ≤ 16 ∧ ∀ (W : World), IsE W g 0 (upd S (sl (V / 64)) ⟨true, V / 64, p, orB bt⟩) → Calls Try.prog 14 #[.pointer (some ⟨g, 0, none⟩)] W fun r w' => r = .returned (.int .i64 (N : Int)) ∧ Below W.heap.size W w' :=
        ⟨_, cntE_set S (sl (V / 64)) (sl_lt _) ⟨true, V / 64, p, orB bt⟩ rfl, cntE_le _ 16, fun W hW => len_any W hW⟩
      have hdr : ∀ (W : World), IsE W g 0 (upd S (sl (V / 64)) ⟨true, V / 64, p, orB bt⟩) → Calls Try.prog 15 #[.pointer (some ⟨g, 0, none⟩), .int .u32 V] W fun r w' => r = .returned (.tuple #[]) ∧ IsE w' g 0 (upd (upd S (sl (V / 64)) ⟨true, V / 64, p, orB bt⟩) (sl (V / 64)) en0) ∧ Turn g g W w' := by
        intro W hW
        have f := drop_any V v0 v1 W hW
        have e : dropS (upd S (sl (V / 64)) ⟨true, V / 64, p, orB bt⟩) V = upd (upd S (sl (V / 64)) ⟨true, V / 64, p, orB bt⟩) (sl (V / 64)) en0 := by
          unfold dropS; rw [upd_same, if_pos ⟨rfl, rfl⟩]
        rw [e] at f
        exact f
      have hfn : ∀ (W : World), IsE W g 0 (upd (upd S (sl (V / 64)) ⟨true, V / 64, p, orB bt⟩) (sl (V / 64)) en0) → Calls Try.prog 13 #[.pointer (some ⟨g, 0, none⟩), .int .u32 V, .int .i64 2, .bool true] W fun r w' => r = .returned (.tuple #[.int .u32 0, .bool false]) ∧ Below W.heap.size W w' := by
        intro W hW
        have f := find_any V 2 v0 v1 true W hW
        unfold Fnd fV at f
        rw [upd_same, show fB en0 V 2 true = false from rfl] at f
        exact f
      obtain ⟨N, hN1, hN2, hln⟩ := hln
      have hN3 : (1 : Int) ≤ (N : Int) := by omega
      have hN4 : (N : Int) ≤ 16 := by omega
      unfold orB at hfl hfd hln hdr hfn
      have hA1 : p * 64 % 4294967296 + V % 64 < 4294967296 := by omega
      have hA0 : 0 ≤ p * 64 % 4294967296 + V % 64 := by omega
      have HFL := Lib.hid hfl
      have HFD := Lib.hid hfd
      have HLN := Lib.hid hln
      have HDR := Lib.hid hdr
      have HFN := Lib.hid hfn
      have HKEY := Lib.hid key
      clear hfl hfd hln hdr hfn key hY o0 o1 o2 o3 hN1 hN2
      generalize upd (upd S (sl (V / 64)) ⟨true, V / 64, p, bits .or .u32 (bits .or .u32 bt 2) 16⟩) (sl (V / 64)) en0 = S3 at *
      generalize upd S (sl (V / 64)) ⟨true, V / 64, p, bits .or .u32 (bits .or .u32 bt 2) 16⟩ = S2 at *
      have hq0 : 0 ≤ V / 64 := by omega
      have hq1 : V / 64 < 4294967296 := by omega
      generalize V / 64 = Q at *
      go_upto_region 8 with fail
      go_still_tail 16, (by kernel_rfl)
      change wpList _ _ _ _ _ wr.drew
      cases a1
      · clear HDR HFN
        go_wp2_with (first
          | (go_at_call 12
             refine HFL.out.mono ?_
             rintro r w2 ⟨rfl, hE2, hT2⟩
             have HB2 := Lib.hid (hT2.below (Nat.le_refl _) (Nat.le_refl _) (hB.out.drew) (Nat.le_of_lt hzg))
             have HE2 := Lib.hid hE2
             have f3 := HKEY.out w2 HB2.out 3 _ rfl
             have f5 := HKEY.out w2 HB2.out 5 _ rfl
             clear hE2 hT2 HFL e2 e3 e4)
          | (go_at_call 13
             refine (HFD.out _ _ HE2.out).mono ?_
             rintro r w3 ⟨rfl, hb3⟩
             have HB3 := Lib.hid (HB2.out.trans (hb3.mono (Nat.le_of_lt HE2.out.z)))
             have HE3 := Lib.hid (HE2.out.below hb3)
             have g3 := HKEY.out w3 HB3.out 3 _ rfl
             have HL3 := Lib.hid (HLN.out _ HE3.out)
             clear hb3 HE2 HB2 f3 f5 HFD)
          | (go_at_call 14
             refine HL3.out.mono ?_
             rintro r w4 ⟨rfl, hb4⟩
             have HB4 := Lib.hid (HB3.out.trans (hb4.mono (Nat.le_of_lt HE3.out.z)))
             have HE4 := Lib.hid (HE3.out.below hb4)
             have HL4 := Lib.hid (HLN.out _ HE4.out)
             clear hb4 HE3 HB3 HL3 g3)
          | (go_at_call 14
             refine HL4.out.mono ?_
             rintro r w5 ⟨rfl, hb5⟩
             have HB5 := Lib.hid (HB4.out.trans (hb5.mono (Nat.le_of_lt HE4.out.z)))
             have HE5 := Lib.hid (HE4.out.below hb5)
             clear hb5 HE4 HB4 HL4))
        go_roundw
        case rel => exact ⟨k + 1, _, by have := HK.out; omega, by have := HK.out; omega, by go_num, HE5, HB5⟩
        case measure => have := HK.out; simp [intOf]; omega
      · go_wp2_with (first
          | (go_at_call 12
             refine HFL.out.mono ?_
             rintro r w2 ⟨rfl, hE2, hT2⟩
             have HB2 := Lib.hid (hT2.below (Nat.le_refl _) (Nat.le_refl _) (hB.out.drew) (Nat.le_of_lt hzg))
             have HE2 := Lib.hid hE2
             have f3 := HKEY.out w2 HB2.out 3 _ rfl
             have f5 := HKEY.out w2 HB2.out 5 _ rfl
             clear hE2 hT2 HFL e2 e3 e4)
          | (go_at_call 13
             refine (HFD.out _ _ HE2.out).mono ?_
             rintro r w3 ⟨rfl, hb3⟩
             have HB3 := Lib.hid (HB2.out.trans (hb3.mono (Nat.le_of_lt HE2.out.z)))
             have HE3 := Lib.hid (HE2.out.below hb3)
             have g3 := HKEY.out w3 HB3.out 3 _ rfl
             have HL3 := Lib.hid (HLN.out _ HE3.out)
             clear hb3 HE2 HB2 f3 f5 HFD)
          | (go_at_call 14
             refine HL3.out.mono ?_
             rintro r w4 ⟨rfl, hb4⟩
             have HB4 := Lib.hid (HB3.out.trans (hb4.mono (Nat.le_of_lt HE3.out.z)))
             have HE4 := Lib.hid (HE3.out.below hb4)
             have HL4 := Lib.hid (HLN.out _ HE4.out)
             clear hb4 HE3 HB3 HL3 g3)
          | (go_at_call 14
             refine HL4.out.mono ?_
             rintro r w5 ⟨rfl, hb5⟩
             have HB5 := Lib.hid (HB4.out.trans (hb5.mono (Nat.le_of_lt HE4.out.z)))
             have HE5 := Lib.hid (HE4.out.below hb5)
             clear hb5 HE4 HB4 HL4)
          | (go_at_call 15
             refine (HDR.out _ HE5.out).mono ?_
             rintro r w6 ⟨rfl, hE6, hT6⟩
             have HB6 := Lib.hid (hT6.below (Nat.le_refl _) (Nat.le_refl _) HB5.out (Nat.le_of_lt HE5.out.z))
             have HE6 := Lib.hid hE6
             have HF6 := Lib.hid (HFN.out _ hE6)
             clear hE6 hT6 HE5 HB5 HDR HFN)
          | (go_at_call 13
             refine HF6.out.mono ?_
             rintro r w7 ⟨rfl, hb7⟩
             have HB7 := Lib.hid (HB6.out.trans (hb7.mono (Nat.le_of_lt HE6.out.z)))
             have HE7 := Lib.hid (HE6.out.below hb7)
             clear hb7 HE6 HB6 HF6))
        go_roundw
        case rel => exact ⟨k + 1, _, by have := HK.out; omega, by have := HK.out; omega, by go_num, HE7, HB7⟩
        case measure => have := HK.out; simp [intOf]; omega
    · have hx : len0 ≤ k ∨ 60 ≤ k := by omega
      clear hlt
      have hfl := flush_any wr hE.out
      unfold Lf at hfl
      have HFL := Lib.hid hfl
      have hln : ∀ (W : World), IsE W g 0 (fun _ => en0) → Calls Try.prog 14 #[.pointer (some ⟨g, 0, none⟩)] W fun r w' => r = .returned (.int .i64 0) ∧ Below W.heap.size W w' := by
        intro W hW
        have h := len_any W hW
        rw [cntE_zero] at h
        exact h
      have HLN := Lib.hid hln
      have HKN := Lib.hid (fun W => known_any W)
      clear hfl hln
      have hkn2 : (len0 : Int) ≤ (k : Int) ∨ ((k : Int) < (len0 : Int) ∧ (60 : Int) ≤ (k : Int)) := by omega
      rcases hkn2 with hx2 | ⟨hx2, hx3⟩
      all_goals
        go_wp2_with (first
          | (go_at_call 16
             refine HFL.out.mono ?_
             rintro r w2 ⟨rfl, hE2, hT2⟩
             have HB2 := Lib.hid (hT2.below (Nat.le_refl _) (Nat.le_refl _) hB.out (Nat.le_of_lt hzg))
             have HL2 := Lib.hid (HLN.out _ hE2)
             have HZ2 := Lib.hid hE2.z
             clear hE2 hT2 HFL HLN)
          | (go_at_call 14
             refine HL2.out.mono ?_
             rintro r w3 ⟨rfl, hb3⟩
             have HB3 := Lib.hid (HB2.out.trans (hb3.mono (Nat.le_of_lt HZ2.out)))
             have HZ3 := Lib.hid (Nat.lt_of_lt_of_le HZ2.out hb3.size)
             clear hb3 HB2 HL2)
          | (go_at_call 11
             refine (HKN.out _).mono ?_
             rintro e w4 ⟨rfl, hb4⟩
             have HB4 := Lib.hid (HB3.out.trans (hb4.mono (Nat.le_of_lt HZ3.out)))
             clear hb4))
        go_ret
        have := HG.out
        subst this
        exact ⟨rfl, HB4.out⟩
end Go.Proofs.Ytblfplhiamcpoaa

/-
  innkeeperlaw9.TlbFlushes returns true: its walk.
-/
import Derived.Test.YtblfplhiamcpoaaBk
import Derived.Test.YtblfplhiamcpoaaBn
import Derived.Test.YtblfplhiamcpoaaBs
import Derived.Test.YtblfplhiamcpoaaRowT
import Derived.Deep.CutBlock
import Derived.StillTailTactics
namespace Go.Proofs.Ytblfplhiamcpoaa
open Go.RowKit
set_option linter.unusedSimpArgs false
set_option linter.unusedVariables false

/-- each entry lies in the slot of its page -/
def InS (S : Nat → En) : Prop := ∀ i, (S i).v = true → sl (S i).n = i
theorem inS_0 : InS (fun _ => en0) := fun i h => by cases h
theorem inS_fill {S : Nat → En} (h : InS S) (e : En) : InS (upd S (sl e.n) e) := fun i hi => by
  by_cases c : i = sl e.n
  · subst c; rw [upd_same]
  · rw [upd_other _ _ _ _ c] at hi ⊢; exact h i hi
/-- is there an entry of page Q? -/
def hitB (S : Nat → En) (Q : Int) : Bool := (S (sl Q)).v && decide ((S (sl Q)).n = Q)
/-- what was counted of the first k slots -/
def gn (S : Nat → En) (Q : Int) (k : Nat) : Nat := if hitB S Q = true ∧ sl Q < k then 1 else 0
theorem gn_le (S : Nat → En) (Q : Int) (k : Nat) : gn S Q k ≤ 1 := by unfold gn; split <;> omega
theorem gn_hit {S : Nat → En} (h : InS S) {Q : Int} {k : Nat} (hv : (S k).v = true) (hn : (S k).n = Q) : gn S Q k = 0 ∧ gn S Q (k + 1) = 1 := by
  have hs := h k hv
  rw [hn] at hs
  unfold gn hitB
  rw [hs, hv, hn]
  simp
theorem gn_no {S : Nat → En} (h : InS S) {Q : Int} {k : Nat} (hno : ¬ ((S k).v = true ∧ (S k).n = Q)) : gn S Q (k + 1) = gn S Q k := by
  unfold gn hitB
  by_cases hk : sl Q = k
  · rw [hk, if_neg, if_neg]
    · omega
    · rintro ⟨h1, h2⟩
      rw [Bool.and_eq_true, decide_eq_true_iff] at h1
      exact hno h1
  · by_cases h1 : sl Q < k
    · simp [h1, Nat.lt_succ_of_lt h1]
    · have h2 : ¬ sl Q < k + 1 := by omega
      simp [h1, h2]
theorem drop_hit {S : Nat → En} (h : InS S) {V : Int} {k : Nat} (hv : (S k).v = true) (hn : (S k).n = V / 64) : dropS S V k = en0 := by
  have hs := h k hv
  rw [hn] at hs
  unfold dropS
  rw [hs, if_pos ⟨hv, hn⟩, upd_same]
theorem drop_no {S : Nat → En} {V : Int} {k : Nat} (hno : ¬ ((S k).v = true ∧ (S k).n = V / 64)) : dropS S V k = S k := by
  unfold dropS
  split
  · rename_i hh
    by_cases hk : k = sl (V / 64)
    · subst hk; exact absurd hh hno
    · rw [upd_other _ _ _ _ hk]
  · rfl
theorem drop_cnt (S : Nat → En) (V : Int) : cntE (dropS S V) 16 + gn S (V / 64) 16 = cntE S 16 := by
  have hs := sl_lt (V / 64)
  unfold dropS gn hitB
  by_cases hh : (S (sl (V / 64))).v = true ∧ (S (sl (V / 64))).n = V / 64
  · rw [if_pos hh, if_pos ⟨by rw [Bool.and_eq_true, decide_eq_true_iff]; exact hh, hs⟩]
    have := (cntE_upd S (sl (V / 64)) en0 16).1 hs
    rw [if_pos hh.1, if_neg (show ¬ ((en0).v = true) by decide)] at this
    omega
  · rw [if_neg hh, if_neg]
    · omega
    · rintro ⟨h1, _⟩
      rw [Bool.and_eq_true, decide_eq_true_iff] at h1
      exact hh h1
/-- the law's copy: the first k slots -/
def cpy (S : Nat → En) (k : Nat) : Nat → En := fun i => if i < k then S i else en0
theorem cpy_0 (S : Nat → En) : cpy S 0 = fun _ => en0 := by funext i; unfold cpy; rw [if_neg (by omega)]
theorem cpy_succ (S : Nat → En) (k : Nat) : upd (cpy S k) k (S k) = cpy S (k + 1) := by
  funext i
  unfold cpy
  by_cases h : i = k
  · subst h; rw [upd_same, if_pos (by omega)]
  · rw [upd_other _ _ _ _ h]
    by_cases h2 : i < k
    · rw [if_pos h2, if_pos (by omega)]
    · rw [if_neg h2, if_neg (by omega)]
theorem IsE.cast {w : World} {g o : Nat} {S R : Nat → En} (x : IsE w g o S) (h : ∀ i, i < 16 → S i = R i) (hR : ∀ i, (R i).Ok) : IsE w g o R :=
  ⟨hR, x.z, fun i hi => by rw [← h i hi]; exact x.c0 i hi, fun i hi => by rw [← h i hi]; exact x.c1 i hi, fun i hi => by rw [← h i hi]; exact x.c2 i hi, fun i hi => by rw [← h i hi]; exact x.c3 i hi, x.fr⟩
theorem cpy_16 {w : World} {g : Nat} {S : Nat → En} (x : IsE w g 0 (cpy S 16)) (hS : ∀ i, (S i).Ok) : IsE w g 0 S := x.cast (fun i hi => if_pos hi) hS
set_option maxRecDepth 100000 in
set_option maxHeartbeats 1000000 in
theorem tlbFlushes_walk (A0 : Option Addr) (len0 cap0 : Nat) (L0 : List Av) (a1 : Int) (w : World) (w0 : RowT w A0 len0 cap0 L0) (w1 : (Lit.int .u32 a1).wf = true) :
    Calls Try.prog 7 #[.slice A0 len0 cap0, .int .u32 a1] w fun e w' => e = .returned (.bool true) ∧ Below w.heap.size w w' := by
  obtain ⟨hlen, hl0, hc0, hA0, hcells, hin⟩ := w0
  obtain ⟨d0, d1⟩ := u32_of_wf w1
  have HLEN := Lib.hid hlen
  have HC := Lib.hid hcells
  have HIN := Lib.hid hin
  unfold maxLen at hc0
  clear hlen hcells hin hA0 w1
  go_enter Try.func7, Try.ntmps7
  go_wp2_with fail
  refine (new_any _).mono ?_
  rintro e w1 ⟨rfl, hE1, hB1, hz1⟩
  have HE1 := Lib.hid hE1
  have HB1 := Lib.hid hB1
  clear hE1 hB1 hz1
  go_upto_block 0 with fail
  generalize hG : w.heap.size = g at *
  have HG := Lib.hid hG
  clear hG
  go_cut [6] from 19 to 48 (fun s6 wx => ∃ S : Nat → En, Hid (InS S) ∧ Hid (IsE wx g 0 S) ∧ Hid (Below g w wx))
  case first =>
    go_wp2_with fail
    go_loopw [6] (fun i wr => ∃ (k : Nat) (S : Nat → En), k ≤ 40 ∧ k ≤ len0 ∧ i = .int .i64 k ∧ Hid (InS S) ∧ Hid (IsE wr g 0 S) ∧ Hid (Below g w wr)) (fun i _ => 40 - (intOf i).toNat)
    case atStart => exact ⟨0, _, by omega, by omega, rfl, Lib.hid inS_0, HE1, HB1⟩
    case round =>
      clear HE1 HB1
      obtain ⟨k, S, hk, hkn, rfl, hI, hE, hB⟩ := hrel
      have hzg := hE.out.z
      by_cases hlt : k < len0 ∧ k < 40
      · obtain ⟨h1, h2⟩ := hlt
        have hkl : k < L0.length := by have := HLEN.out; omega
        obtain ⟨b, off, rfl, hbg, hc⟩ := HC.out (by omega)
        have hbg' : b < g := by have := HG.out; omega
        have key := fun (W : World) (hW : Below g w W) j u hu => (hW.cell (p := ⟨b, off + k * 6 + j, none⟩) hbg').trans (hc k hkl j u hu)
        have hq := HIN.out _ (List.getElem_mem hkl)
        obtain ⟨v0, v1⟩ := u32_of_wf hq.va
        have hp := u32_of_wf hq.p
        have hb := u32_of_wf hq.b
        have hk0 : (0 : Int) ≤ (k : Int) := by omega
        have hk1 : (k : Int) < 40 := by omega
        have hk2 : (k : Int) < (len0 : Int) := by omega
        have hbw : b < wr.heap.size := by omega
        have HK := Lib.hid (And.intro h1 h2)
        clear hc hq h1 h2 HC HIN HLEN
        generalize L0[k] = q at *
        obtain ⟨qk, qh, V, p, bt, qs⟩ := q
        simp only at v0 v1 hp hb
        have e2 := key wr hB.out 2 _ rfl
        have e3 := key wr hB.out 3 _ rfl
        have e4 := key wr hB.out 4 _ rfl
        have hq : V.tdiv 64 = V / 64 := Int.tdiv_eq_ediv_of_nonneg v0
        have hfl := fill_any ⟨true, V / 64, p, bt⟩ ⟨by show 0 ≤ V / 64; omega, by show V / 64 < 4294967296; omega⟩ hp hb wr.drew (hE.out.drewN 1)
        have hY : fillS S ⟨true, V / 64, p, bt⟩ = upd S (sl (V / 64)) ⟨true, V / 64, p, bt⟩ := if_pos rfl
        rw [hY] at hfl
        have hI2 := inS_fill hI.out ⟨true, V / 64, p, bt⟩
        unfold Lf En.ag at hfl
        have HFL := Lib.hid hfl
        have HI2 := Lib.hid (show InS (upd S (sl (V / 64)) ⟨true, V / 64, p, bt⟩) from hI2)
        have hq0 : 0 ≤ V / 64 := by omega
        have hq1 : V / 64 < 4294967296 := by omega
        clear hfl hI2 hY key
        generalize V / 64 = Q at *
        generalize upd S (sl Q) ⟨true, Q, p, bt⟩ = S2 at *
        go_upto_region 7 with fail
        go_still_tail 18, (by kernel_rfl)
        change wpList _ _ _ _ _ wr.drew
        go_wp2_with (first
          | (go_at_call 12
             refine HFL.out.mono ?_
             rintro r w2 ⟨rfl, hE2, hT2⟩
             have HB2 := Lib.hid (hT2.below (Nat.le_refl _) (Nat.le_refl _) (hB.out.drew) (Nat.le_of_lt hzg))
             have HE2 := Lib.hid hE2
             clear hE2 hT2 HFL e2 e3 e4))
        go_roundw
        case rel => exact ⟨k + 1, _, by have := HK.out; omega, by have := HK.out; omega, by go_num, HI2, HE2, HB2⟩
        case measure => have := HK.out; simp [intOf]; omega
      · have hx2 : (len0 : Int) ≤ (k : Int) ∨ ((k : Int) < (len0 : Int) ∧ (40 : Int) ≤ (k : Int)) := by omega
        clear hlt
        rcases hx2 with hx2 | ⟨hx2, hx3⟩
        all_goals
          go_wp2_with fail
          go_meet
          case rel => exact ⟨S, hI, hE, hB⟩
  case rest =>
    clear HE1 HB1 HC HIN HLEN
    obtain ⟨S, hI, hE, hB⟩ := hcut
    have hzc := hE.out.z
    have hok := hE.out.ok
    go_upto_region 10 with fail
    change Code.wp _ _ _ _ (wc.alloc (.cells (zs16 16).toArray 43))
    have hz0 := (Below.refl wc.heap.size wc).alloc (Nat.le_refl _) (.cells (zs16 16).toArray 43)
    have HE0 := Lib.hid (hE.out.below hz0)
    have HW0 := Lib.hid (show IsE (wc.alloc (.cells (zs16 16).toArray 43)) wc.heap.size 0 (cpy S 0) by rw [cpy_0]; exact new_isE wc _)
    have HB0 := Lib.hid (hB.out.trans (hz0.mono (Nat.le_of_lt hzc)))
    have HOK := Lib.hid hok
    clear hz0 hok hE hB
    generalize wc.alloc (.cells (zs16 16).toArray 43) = W at *
    generalize wc.heap.size = G at *
    have hgG : g ≠ G := by omega
    obtain ⟨N, hN⟩ : ∃ N, cntE S 16 = N := ⟨_, rfl⟩
    have hN16 : N ≤ 16 := by rw [← hN]; exact cntE_le S 16
    have hln := len_any W HE0.out
    rw [hN] at hln
    have HLN := Lib.hid hln
    have HN := Lib.hid hN
    clear hln hN
    go_wp2_with (first
      | (go_at_call 14
         refine HLN.out.mono ?_
         rintro r w2 ⟨rfl, hb2⟩
         have HE2 := Lib.hid (HE0.out.below hb2)
         have HW2 := Lib.hid (HW0.out.below hb2)
         have HB2 := Lib.hid (HB0.out.trans (hb2.mono (Nat.le_of_lt HE0.out.z)))
         clear hb2 HLN HE0 HW0 HB0))
    go_loopw [9] (fun i wr => ∃ k : Nat, k ≤ 16 ∧ i = .int .i64 k ∧ Hid (IsE wr g 0 S) ∧ Hid (IsE wr G 0 (cpy S k)) ∧ Hid (Below g w wr)) (fun i _ => 16 - (intOf i).toNat)
    case atStart => exact ⟨0, by omega, rfl, HE2, HW2, HB2⟩
    case round =>
      clear HE2 HW2 HB2
      obtain ⟨k, hk, rfl, hE, hW, hB⟩ := hrel
      have hzg := hE.out.z
      have hzG := hW.out.z
      by_cases hlt : k < 16
      · have hk0 : (0 : Int) ≤ (k : Int) := by omega
        have hk1 : (k : Int) < 16 := by omega
        have hat := at_any (k : Int) wr hE.out
        have hatS : atS S (k : Int) = S k := by unfold atS; rw [if_pos ⟨hk0, hk1⟩, show ((k : Int)).toNat = k by omega]
        rw [hatS] at hat
        have hset := fun (W : World) (hW : IsE W G 0 (cpy S k)) => hW.set k hlt (S k) (HOK.out k)
        rw [cpy_succ] at hset
        have hcs : (S k).cs = [.bool (S k).v, .int .u32 (S k).n, .int .u32 (S k).p, .int .u32 (S k).b] := rfl
        rw [hcs] at hset
        unfold En.ag at hat
        generalize (S k).v = v at *
        generalize (S k).n = n at *
        generalize (S k).p = p at *
        generalize (S k).b = b at *
        have HAT := Lib.hid hat
        have HSET := Lib.hid hset
        have HLT := Lib.hid hlt
        clear hat hatS hset hcs hlt
        go_wp2_with (first
          | (go_at_call 17
             refine HAT.out.mono ?_
             rintro r w3 ⟨rfl, hb3⟩
             have HE3 := Lib.hid (hE.out.below hb3)
             have HW3 := Lib.hid (hW.out.below hb3)
             have HB3 := Lib.hid (hB.out.trans (hb3.mono (Nat.le_of_lt hzg)))
             have c0 := HW3.out.c0 k HLT.out
             have c1 := HW3.out.c1 k HLT.out
             have c2 := HW3.out.c2 k HLT.out
             have c3 := HW3.out.c3 k HLT.out
             have fr0 := HW3.out.fr (k * 4)
             have fr1 := HW3.out.fr (k * 4 + 1)
             have fr2 := HW3.out.fr (k * 4 + 2)
             have fr3 := HW3.out.fr (k * 4 + 3)
             rw [Nat.zero_add] at c0 c1 c2 c3
             generalize (cpy S k k).v = y0 at *
             generalize (cpy S k k).n = y1 at *
             generalize (cpy S k k).p = y2 at *
             generalize (cpy S k k).b = y3 at *
             clear hb3 HAT))
        have ht4 : Turn G G w3 (w3.setCells G (k * 4) [.bool v, .int .u32 n, .int .u32 p, .int .u32 b]) := Turn.setsG _ _ (Turn.refl _ _ _)
        have hw4 := HSET.out w3 HW3.out
        rw [Nat.zero_add] at hw4
        have HE4 := Lib.hid (HE3.out.turn ht4 hgG hgG)
        have HW4 := Lib.hid hw4
        have HB4 := Lib.hid (ht4.below (Nat.le_of_lt hzc) (Nat.le_of_lt hzc) HB3.out (Nat.le_of_lt HE3.out.z))
        clear ht4 hw4
        go_roundw
        case rel =>
          rw [set4]
          exact ⟨k + 1, by have := HLT.out; omega, by go_num, HE4, HW4, HB4⟩
        case measure => have := HLT.out; simp [intOf]; omega
      · obtain rfl : k = 16 := by omega
        clear hlt hk
        have HW := Lib.hid (cpy_16 hW.out HOK.out)
        have hq : a1.tdiv 64 = a1 / 64 := Int.tdiv_eq_ediv_of_nonneg d0
        have hdr := drop_any a1 d0 d1 wr hE.out
        unfold Lf at hdr
        have HDR := Lib.hid hdr
        have hfn : ∀ (W : World), IsE W g 0 (fun _ => en0) → Calls Try.prog 13 #[.pointer (some ⟨g, 0, none⟩), .int .u32 a1, .int .i64 2, .bool true] W fun r w' => r = .returned (.tuple #[.int .u32 0, .bool false]) ∧ Below W.heap.size W w' := by
          intro W hW
          have f := find_any a1 2 d0 d1 true W hW
          unfold Fnd fV at f
          rw [show fB en0 a1 2 true = false from rfl] at f
          exact f
        have HFN := Lib.hid hfn
        have hcnt := drop_cnt S a1
        rw [HN.out] at hcnt
        have HCNT := Lib.hid hcnt
        have HHIT := Lib.hid (fun (k : Nat) (hv : (S k).v = true) (hn : (S k).n = a1 / 64) => And.intro (drop_hit hI.out hv hn) (gn_hit hI.out hv hn))
        have HNO := Lib.hid (fun (k : Nat) (hno : ¬ ((S k).v = true ∧ (S k).n = a1 / 64)) => And.intro (drop_no (V := a1) hno) (gn_no hI.out hno))
        clear hdr hfn hcnt
        have hq0 : 0 ≤ a1 / 64 := by omega
        have hq1 : a1 / 64 < 4294967296 := by omega
        generalize hD : dropS S a1 = D at *
        clear hD
        generalize a1 / 64 = Q at *
        go_wp2_with (first
          | (go_at_call 15
             refine HDR.out.mono ?_
             rintro r w3 ⟨rfl, hE3, hT3⟩
             have HE3 := Lib.hid hE3
             have HW3 := Lib.hid (HW.out.turn hT3 (Ne.symm hgG) (Ne.symm hgG))
             have HB3 := Lib.hid (hT3.below (Nat.le_refl _) (Nat.le_refl _) hB.out (Nat.le_of_lt hzg))
             clear hE3 hT3 HDR HW hE hW hB))
        have hzc2 : g < G := hzc
        go_loopw [10, 11] (fun c i wr => ∃ k : Nat, k ≤ 16 ∧ i = .int .i64 k ∧ c = .int .i64 ((gn S Q k : Nat) : Int) ∧ Hid (IsE wr g 0 D) ∧ Hid (IsE wr G 0 S) ∧ Hid (Below g w wr)) (fun _ i _ => 16 - (intOf i).toNat)
        case atStart => exact ⟨0, by omega, rfl, by unfold gn; simp, HE3, HW3, HB3⟩
        case round =>
          clear HE3 HW3 HB3
          obtain ⟨k, hk, rfl, rfl, hE, hW, hB⟩ := hrel
          have hzg := hE.out.z
          have hzG := hW.out.z
          have hgl := gn_le S Q k
          have hgi : ((gn S Q k : Nat) : Int) ≤ 1 := by omega
          by_cases hlt : k < 16
          · have hk0 : (0 : Int) ≤ (k : Int) := by omega
            have hk1 : (k : Int) < 16 := by omega
            have hat := at_any (k : Int) wr hE.out
            have hatS : atS D (k : Int) = D k := by unfold atS; rw [if_pos ⟨hk0, hk1⟩, show ((k : Int)).toNat = k by omega]
            rw [hatS] at hat
            have f0 := hW.out.c0 k hlt
            have f1 := hW.out.c1 k hlt
            have f2 := hW.out.c2 k hlt
            have f3 := hW.out.c3 k hlt
            rw [Nat.zero_add] at f0 f1 f2 f3
            have HLT := Lib.hid hlt
            by_cases hh : (S k).v = true ∧ (S k).n = Q
            · obtain ⟨hd, hg0, hg1⟩ := HHIT.out k hh.1 hh.2
              rw [hd] at hat
              unfold En.ag en0 at hat
              rw [hg0]
              rw [hh.1] at f0
              rw [hh.2] at f1
              have HG1 := Lib.hid hg1
              have HAT := Lib.hid hat
              clear hat hatS hlt hh hd hg0 hg1 hgl hgi HHIT HNO HCNT
              generalize (S k).p = p at *
              generalize (S k).b = b at *
              go_wp2_with (first
                | (go_at_call 17
                   refine HAT.out.mono ?_
                   rintro r w3 ⟨rfl, hb3⟩
                   have HE3 := Lib.hid (hE.out.below hb3)
                   have HW3 := Lib.hid (hW.out.below hb3)
                   have HB3 := Lib.hid (hB.out.trans (hb3.mono (Nat.le_of_lt hzg)))
                   have g0 := (hb3.cell (p := ⟨G, k * 4, none⟩) hzG).trans f0
                   have g1 := (hb3.cell (p := ⟨G, k * 4 + 1, none⟩) hzG).trans f1
                   have hz3 := HE3.out.z
                   have hz4 := HW3.out.z
                   clear hb3 HAT f0 f1 f2 f3))
              go_roundw
              case rel =>
                have hl := (Below.refl w3.heap.size w3).alloc (Nat.le_refl _) (.cells #[.bool false, .int .u32 0, .int .u32 0, .int .u32 0] 35)
                exact ⟨k + 1, by have := HLT.out; omega, by go_num, by rw [HG1.out]; rfl, Lib.hid (HE3.out.below hl), Lib.hid (HW3.out.below hl), Lib.hid (HB3.out.trans (hl.mono (Nat.le_of_lt hz3)))⟩
              case measure => have := HLT.out; simp [intOf]; omega
            · obtain ⟨hd, hg⟩ := HNO.out k hh
              rw [hd] at hat
              unfold En.ag at hat
              have HG1 := Lib.hid hg
              have HAT := Lib.hid hat
              clear hat hatS hlt hd hg hgl HHIT HNO HCNT
              generalize gn S Q k = c at *
              generalize (S k).v = v at *
              generalize (S k).n = n at *
              generalize (S k).p = p at *
              generalize (S k).b = b at *
              cases v
              · go_upto_region 25 with (first
                | (go_at_call 17
                   refine HAT.out.mono ?_
                   rintro r w3 ⟨rfl, hb3⟩
                   have hl := (Below.refl w3.heap.size w3).alloc (Nat.le_refl _) (.cells #[.bool false, .int .u32 n, .int .u32 p, .int .u32 b] 35)
                   have hl3 := hb3.trans (hl.mono hb3.size)
                   have HE4 := Lib.hid (hE.out.below hl3)
                   have HW4 := Lib.hid (hW.out.below hl3)
                   have HB4 := Lib.hid (hB.out.trans (hl3.mono (Nat.le_of_lt hzg)))
                   have HC4 := Lib.hid (C4.new w3 35 false n p b)
                   have g0 := (hb3.cell (p := ⟨G, k * 4, none⟩) hzG).trans f0
                   have g1 := (hb3.cell (p := ⟨G, k * 4 + 1, none⟩) hzG).trans f1
                   have HF := Lib.hid (And.intro ((hl3.cell (p := ⟨G, k * 4, none⟩) hzG).trans f0) (And.intro ((hl3.cell (p := ⟨G, k * 4 + 1, none⟩) hzG).trans f1) (And.intro ((hl3.cell (p := ⟨G, k * 4 + 2, none⟩) hzG).trans f2) ((hl3.cell (p := ⟨G, k * 4 + 3, none⟩) hzG).trans f3))))
                   have hz4 := HW4.out.z
                   have hz5 : G < w3.heap.size := Nat.lt_of_lt_of_le hzG hb3.size
                   clear hb3 hl hl3 HAT f0 f1 f2 f3))
                generalize w3.alloc (.cells #[.bool false, .int .u32 n, .int .u32 p, .int .u32 b] 35) = W4 at *
                have y0 := HC4.out.c0
                have y1 := HC4.out.c1
                have y2 := HC4.out.c2
                have y3 := HC4.out.c3
                obtain ⟨x0, x1, x2, x3⟩ := HF.out
                clear g0 g1
                generalize w3.heap.size = X3 at *
                go_quiet (fail)
                go_wp2_with fail
                go_roundw
                case rel => exact ⟨k + 1, by have := HLT.out; omega, by go_num, by rw [HG1.out], Lib.hid (HE4.out.drewN _), Lib.hid (HW4.out.drewN _), Lib.hid (Below_drewN HB4.out _)⟩
                case measure => have := HLT.out; simp [intOf]; omega
              · have hnq : n ≠ Q := fun h => hh ⟨rfl, h⟩
                have hnb : (n == Q) = false := by simpa using hnq
                clear hh
                go_upto_region 25 with (first
                | (go_at_call 17
                   refine HAT.out.mono ?_
                   rintro r w3 ⟨rfl, hb3⟩
                   have hl := (Below.refl w3.heap.size w3).alloc (Nat.le_refl _) (.cells #[.bool true, .int .u32 n, .int .u32 p, .int .u32 b] 35)
                   have hl3 := hb3.trans (hl.mono hb3.size)
                   have HE4 := Lib.hid (hE.out.below hl3)
                   have HW4 := Lib.hid (hW.out.below hl3)
                   have HB4 := Lib.hid (hB.out.trans (hl3.mono (Nat.le_of_lt hzg)))
                   have HC4 := Lib.hid (C4.new w3 35 true n p b)
                   have g0 := (hb3.cell (p := ⟨G, k * 4, none⟩) hzG).trans f0
                   have g1 := (hb3.cell (p := ⟨G, k * 4 + 1, none⟩) hzG).trans f1
                   have HF := Lib.hid (And.intro ((hl3.cell (p := ⟨G, k * 4, none⟩) hzG).trans f0) (And.intro ((hl3.cell (p := ⟨G, k * 4 + 1, none⟩) hzG).trans f1) (And.intro ((hl3.cell (p := ⟨G, k * 4 + 2, none⟩) hzG).trans f2) ((hl3.cell (p := ⟨G, k * 4 + 3, none⟩) hzG).trans f3))))
                   have hz4 := HW4.out.z
                   have hz5 : G < w3.heap.size := Nat.lt_of_lt_of_le hzG hb3.size
                   clear hb3 hl hl3 HAT f0 f1 f2 f3))
                generalize w3.alloc (.cells #[.bool true, .int .u32 n, .int .u32 p, .int .u32 b] 35) = W4 at *
                have y0 := HC4.out.c0
                have y1 := HC4.out.c1
                have y2 := HC4.out.c2
                have y3 := HC4.out.c3
                obtain ⟨x0, x1, x2, x3⟩ := HF.out
                clear g0 g1
                generalize w3.heap.size = X3 at *
                go_quiet (fail)
                go_wp2_with fail
                go_roundw
                case rel => exact ⟨k + 1, by have := HLT.out; omega, by go_num, by rw [HG1.out], Lib.hid (HE4.out.drewN _), Lib.hid (HW4.out.drewN _), Lib.hid (Below_drewN HB4.out _)⟩
                case measure => have := HLT.out; simp [intOf]; omega
          · obtain rfl : k = 16 := by omega
            clear hlt hk
            have hln := len_any wr hE.out
            have hc := HCNT.out
            generalize cntE D 16 = M at *
            generalize gn S Q 16 = c at *
            have hNM : (N : Int) - (c : Int) = (M : Int) := by omega
            have hM0 : (M : Int) ≤ 16 := by omega
            have HLN := Lib.hid hln
            have HFL := Lib.hid (fun (W : World) (hW : IsE W g 0 D) => flush_any W hW)
            unfold Lf at HFL
            have hl0 : ∀ (W : World), IsE W g 0 (fun _ => en0) → Calls Try.prog 14 #[.pointer (some ⟨g, 0, none⟩)] W fun r w' => r = .returned (.int .i64 0) ∧ Below W.heap.size W w' := by
              intro W hW
              have h := len_any W hW
              rw [cntE_zero] at h
              exact h
            have HL0 := Lib.hid hl0
            have hat : ∀ (k : Nat) (W : World), IsE W g 0 (fun _ => en0) → Calls Try.prog 17 #[.pointer (some ⟨g, 0, none⟩), .int .i64 k] W fun r w' => r = .returned (.agg #[.bool false, .int .u32 0, .int .u32 0, .int .u32 0]) ∧ Below W.heap.size W w' := by
              intro k W hW
              have h := at_any (k : Int) W hW
              have e : atS (fun _ => en0) (k : Int) = en0 := by unfold atS; split <;> rfl
              rw [e] at h
              exact h
            have HAT := Lib.hid hat
            have HKN := Lib.hid (fun W => known_any W)
            clear hln hc hl0 hat HHIT HNO HCNT HN HOK hI
            go_wp2_with (first
              | (go_at_call 14
                 refine HLN.out.mono ?_
                 rintro r w3 ⟨rfl, hb3⟩
                 have HB3 := Lib.hid (hB.out.trans (hb3.mono (Nat.le_of_lt hzg)))
                 have HF3 := Lib.hid (HFL.out w3 (hE.out.below hb3))
                 have HZ3 := Lib.hid (hE.out.below hb3).z
                 clear hb3 HLN HFL)
              | (go_at_call 16
                 refine HF3.out.mono ?_
                 rintro r w4 ⟨rfl, hE4, hT4⟩
                 have HB4 := Lib.hid (hT4.below (Nat.le_refl _) (Nat.le_refl _) HB3.out (Nat.le_of_lt HZ3.out))
                 have HE4 := Lib.hid hE4
                 clear hE4 hT4 HF3 HB3 HZ3))
            go_loopw [13] (fun i wr => ∃ k : Nat, k ≤ 16 ∧ i = .int .i64 k ∧ Hid (IsE wr g 0 (fun _ => en0)) ∧ Hid (Below g w wr)) (fun i _ => 16 - (intOf i).toNat)
            case atStart => exact ⟨0, by omega, rfl, HE4, HB4⟩
            case round =>
              clear HE4 HB4
              obtain ⟨k, hk, rfl, hE, hB⟩ := hrel
              have hzg := hE.out.z
              by_cases hlt : k < 16
              · have hk0 : (0 : Int) ≤ (k : Int) := by omega
                have hk1 : (k : Int) < 16 := by omega
                have HA := Lib.hid (HAT.out k wr hE.out)
                have HLT := Lib.hid hlt
                clear hlt HFN HL0 HAT HKN
                go_wp2_with (first
                  | (go_at_call 17
                     refine HA.out.mono ?_
                     rintro r w3 ⟨rfl, hb3⟩
                     have HE3 := Lib.hid (hE.out.below hb3)
                     have HB3 := Lib.hid (hB.out.trans (hb3.mono (Nat.le_of_lt hzg)))
                     clear hb3 HA))
                go_roundw
                case rel => exact ⟨k + 1, by have := HLT.out; omega, by go_num, HE3, HB3⟩
                case measure => have := HLT.out; simp [intOf]; omega
              · obtain rfl : k = 16 := by omega
                clear hlt hk
                have HF := Lib.hid (HFN.out wr hE.out)
                go_wp2_with (first
                  | (go_at_call 13
                     refine HF.out.mono ?_
                     rintro r w3 ⟨rfl, hb3⟩
                     have HB3 := Lib.hid (hB.out.trans (hb3.mono (Nat.le_of_lt hzg)))
                     have HL3 := Lib.hid (HL0.out w3 (hE.out.below hb3))
                     have HZ3 := Lib.hid (hE.out.below hb3).z
                     clear hb3 HF)
                  | (go_at_call 14
                     refine HL3.out.mono ?_
                     rintro r w4 ⟨rfl, hb4⟩
                     have HB4 := Lib.hid (HB3.out.trans (hb4.mono (Nat.le_of_lt HZ3.out)))
                     have HZ4 := Lib.hid (Nat.lt_of_lt_of_le HZ3.out hb4.size)
                     clear hb4 HL3 HB3)
                  | (go_at_call 11
                     refine (HKN.out _).mono ?_
                     rintro e w5 ⟨rfl, hb5⟩
                     have HB5 := Lib.hid (HB4.out.trans (hb5.mono (Nat.le_of_lt HZ4.out)))
                     clear hb5))
                go_ret
                have := HG.out
                subst this
                exact ⟨rfl, HB5.out⟩
end Go.Proofs.Ytblfplhiamcpoaa

/-
  innkeeperlaw4.HmachLoads returns true: its walk.
-/
import Derived.Test.YtaghblcboimbpaaMw
import Derived.Test.YtaghblcboimbpaaRowH
import Derived.Test.YtaghblcboimbpaaRowI
import Derived.Outline
namespace Go.Proofs.Ytaghblcboimbpaa
open Go.RowKit
set_option linter.unusedSimpArgs false
set_option linter.unusedVariables false

theorem own_turn {g h B : Nat} {e : TypeId} {size : Nat} {v : Value} {n : Nat} {xs : List Value} {w w' : World} (o : w.ownsRow B e size v n xs) (t : Turn g h w w') (hg : g < B) (hh : h < B) : w'.ownsRow B e size v n xs :=
  own_keep o fun i hi hl => t.block i hl (by omega) (by omega)
theorem RdI.more {w : World} {B B' : Nat} {A : Option Addr} {L : List Hi} (h : RdI w B A L) (hB : B ≤ B') : RdI w B' A L := fun hn => by
  obtain ⟨g, off, e, hg, hc⟩ := h hn
  exact ⟨g, off, e, by omega, hc⟩
/-- what is told twice of bytes is told alike -/
theorem both_told {l : List UInt8} {L L' : List Hi} {r r' : List UInt8} (h1 : l = encs L ++ r) (h2 : l = encs L' ++ r') (hL : ∀ p ∈ L, p.Ok) (hL' : ∀ p ∈ L', p.Ok) (hr : r = [] ∨ dcE (r.take 8) ≠ 0) (hr' : r' = [] ∨ dcE (r'.take 8) ≠ 0) : r = r' := by
  have key : ∀ x : List UInt8, (x = [] ∨ dcE (x.take 8) ≠ 0) → dcE (x.take 8) ≠ 0 := fun x hx => by
    rcases hx with rfl | h
    · exact dcE_nil
    · exact h
  exact (all_one L L' r r' hL hL' (h1.symm.trans h2) (key r hr) (key r' hr')).2

set_option maxRecDepth 100000 in
set_option maxHeartbeats 4000000 in
theorem hmachLoads_walk (A0 : Option Addr) (len0 cap0 : Nat) (L0 : List Hi) (A1 : Option Addr) (len1 cap1 : Nat) (z1 : List Int) (a2 : Int) (w : World) (w0 : RowI w A0 len0 cap0 L0) (w1 : IsRow .u8 w A1 len1 cap1 z1) (w2 : (Lit.int .i64 a2).wf = true) :
    Calls Try.prog 5 #[.slice A0 len0 cap0, .slice A1 len1 cap1, .int .i64 a2] w fun e w' => e = .returned (.bool true) ∧ Below w.heap.size w w' := by
  obtain ⟨rfl, hl0, hc0, hA0, hr0, hin⟩ := w0
  obtain ⟨hl1, hc1, hA1, lb, hlb, hr1⟩ := w1.bytes
  subst hlb
  obtain ⟨c0, c1⟩ := i64_of_wf w2
  have hwi := within_book a2 30 c0 c1 (by omega) (by omega)
  obtain ⟨x0, x1⟩ := wdV_bd a2 0 30 (by omega)
  generalize wdV a2 0 30 = x at *
  have hct := cut_any A1 lb.length cap1 40 hl1 hc1 hA1
  have hlt : (lb.take 40).length = min lb.length 40 := by rw [List.length_take, Nat.min_comm]
  rw [← hlt] at hct
  have HWI := Lib.hid hwi
  have HCT := Lib.hid hct
  have HR0 := Lib.hid hr0
  have HIN := Lib.hid hin
  have HR1 := Lib.hid (show Rd w w.heap.size A1 (bv (lb.take 40)) by have := hr1.take 40; simpa [bv, List.map_take] using this)
  have HC0 := Lib.hid (show L0.length ≤ maxLen by omega)
  have HC1 := Lib.hid hc1
  have HL1 := Lib.hid (show (lb.take 40).length ≤ cap1 ∧ (lb.take 40).length ≤ 40 by omega)
  clear hwi hct hr0 hin hr1 hA0 hA1 hc0 hc1 hl0 hl1 w1 w2 hlt
  generalize lb.take 40 = l at *
  go_enter Try.func5, Try.ntmps5
  go_wp2_with fail
  refine (new_any 6 6 rfl (by omega) (by omega) _).mono ?_
  rintro e w1 ⟨rfl, hb1, hz1, hM1⟩
  have hM := hM1 w1.heap.size (Nat.le_refl _)
  have HB1 := Lib.hid hb1
  have HM := Lib.hid hM
  have HZ := Lib.hid hz1
  clear hb1 hM1 hM hz1
  go_wp2_with fail
  refine (made_any A0 cap0 L0 HC0.out true w1 (RdI.more (HR0.out.keep HB1.out) HB1.out.size) HIN.out).mono ?_
  rintro e w2 ⟨A2, c2, rfl, ho2, hb2⟩
  have hok := md4s_ok true L0 HIN.out
  have hlen := md4s_len true L0
  generalize md4s true L0 = CL at *
  have hM2 := HM.out.below hb2
  have hB2 := HB1.out.trans (hb2.mono HB1.out.size)
  have hcp := own_cap ho2
  have hl2 : (encs CL).length = 8 * CL.length := encs_len CL
  have hlo := load_any _ _ _ _ A2 c2 (encs CL) (by rw [hl2]; exact hcp.1) hcp.2 (by omega) w2 hb2.size hM2 (Rd.of_own ho2)
  rw [hl2] at hlo
  have HLO := Lib.hid hlo
  have HB2 := Lib.hid hB2
  have HO2 := Lib.hid ho2
  have HOK := Lib.hid hok
  have HCP := Lib.hid hcp
  have HS2 := Lib.hid hb2.size
  clear ho2 hb2 hM2 hB2 hcp hlo HM HR0 HB1 hl2 hok
  go_wp2_with fail
  refine HLO.out.mono ?_
  intro e w3 hld
  obtain ⟨rfl, hT3, A3, c3, hM3⟩ := hld.enc HOK.out
  have hB3 := turn_below hT3 HB2.out HB2.out.size (by simp) (by simp)
  have HO3 := Lib.hid (own_turn HO2.out hT3 (by have := HZ.out; simp; omega) (by have := HZ.out; simp; omega))
  have HRU := Lib.hid (run_any _ _ _ _ x (by omega) w3 hM3)
  have HB3 := Lib.hid hB3
  have HS3 := Lib.hid (Nat.le_trans HS2.out hT3.size)
  clear hld hT3 hM3 hB3 HLO HB2 HO2
  go_wp2_with (go_at_call 20; refine (HWI.out _).mono ?_; rintro e w' ⟨rfl, rfl⟩)
  refine HRU.out.mono ?_
  rintro e w4 ⟨rfl, hM4, hT4⟩
  have hB4 := turn_below hT4 HB3.out HB3.out.size (by simp) (by simp)
  have HO4 := Lib.hid (own_turn HO3.out hT4 (by have := HZ.out; simp; omega) (by have := HZ.out; simp; omega))
  have HS4 := Lib.hid (Nat.le_trans HS3.out hT4.size)
  generalize rn x.toNat _ = R at *
  obtain ⟨rh, ri, rc, M4⟩ := R
  simp only at hM4
  have hat := at_any w4 hM4
  generalize hpp : M4.p = p4 at *
  have HAT := Lib.hid hat
  have HPP := Lib.hid hpp
  have HB4 := Lib.hid hB4
  have HM4 := Lib.hid hM4
  have HRA := Lib.hid (rall_any A1 cap1 l HL1.out.1 HC1.out (by have := HL1.out.2; omega) w4 ((HR1.out.below HB4.out).more HB4.out.size))
  clear hT4 hM4 hB4 hat HRU HB3 HO3 hpp
  go_wp2_with (first
    | (go_at_call 22; refine HAT.out.mono ?_; rintro e w' ⟨rfl, rfl⟩; clear HAT)
    | (go_at_call 23; refine (HCT.out _).mono ?_; rintro e w' ⟨rfl, rfl⟩; clear HCT))
  refine HRA.out.mono ?_
  rintro e w5 ⟨hb5, L5, r5, hL5, hE5, h | h⟩
  · obtain ⟨rfl, A5, c5, rfl, ho5⟩ := h
    clear ho5
    have hM5 := HM4.out.below hb5
    have hB5 := HB4.out.trans (hb5.mono HB4.out.size)
    have HO5 := Lib.hid (own_keep HO4.out fun i _ hi => hb5.block i hi)
    have HS5 := Lib.hid (Nat.le_trans HS4.out hb5.size)
    have HLO := Lib.hid (load_any _ _ _ _ A1 cap1 l HL1.out.1 HC1.out (by have := HL1.out.2; omega) w5 HS5.out hM5 ((HR1.out.below hB5).more hB5.size))
    have HB5 := Lib.hid hB5
    have HL5 := Lib.hid hL5
    have HE5 := Lib.hid hE5
    have HM5 := Lib.hid hM5
    clear hb5 hM5 hB5 hL5 hE5 HRA HO4 HB4 HM4
    go_wp2_with fail
    refine HLO.out.mono ?_
    rintro e w6 ⟨L6, r6, hL6, hE6, h | h⟩
    case inr => exact absurd (both_told hE6 HE5.out hL6 HL5.out (.inr h.2.1) (.inl rfl)) h.1
    obtain ⟨rfl, rfl, hT6, A6, c6, hM6⟩ := h
    have HB6 := Lib.hid (turn_below hT6 HB5.out HB5.out.size (by simp) (by simp))
    have HO6 := Lib.hid (own_turn HO5.out hT6 (by have := HZ.out; simp; omega) (by have := HZ.out; simp; omega))
    have HS6 := Lib.hid (Nat.le_trans HS5.out hT6.size)
    have HM6 := Lib.hid hM6
    have hat2 : Calls Try.prog 22 #[.pointer (some ⟨w.heap.size + 1, 0, none⟩)] w6 fun e w' => e = .returned (.int .i64 0) ∧ w6 = w' := at_any w6 hM6
    have HAT2 := Lib.hid hat2
    clear hT6 hM6 hat2 HLO HB5 HO5 hL6 hE6
    have HLO2 := Lib.hid (load_any _ _ _ _ A2 c2 (encs CL) (by rw [encs_len]; exact HCP.out.1) HCP.out.2 (by rw [encs_len]; omega) w6 HS6.out HM6.out (Rd.of_own HO6.out))
    rw [encs_len] at HLO2
    go_wp2_with (go_at_call 22; refine HAT2.out.mono ?_; rintro e w' ⟨rfl, rfl⟩; clear HAT2)
    refine HLO2.out.mono ?_
    intro e w7 hld2
    obtain ⟨rfl, hT7, A7, c7, hM7⟩ := hld2.enc HOK.out
    have HB7 := Lib.hid (turn_below hT7 HB6.out HB6.out.size (by simp) (by simp))
    have hat3 : Calls Try.prog 22 #[.pointer (some ⟨w.heap.size + 1, 0, none⟩)] w7 fun e w' => e = .returned (.int .i64 0) ∧ w7 = w' := at_any w7 hM7
    have HAT3 := Lib.hid hat3
    clear hld2 hT7 hM7 hat3 HLO2 HB6 HO6
    go_wp2_with (first
      | (go_at_call 22; refine HAT3.out.mono ?_; rintro e w' ⟨rfl, rfl⟩; clear HAT3)
      | (go_at_call 19; refine (known_any _).mono ?_; rintro e w8 ⟨rfl, hb8⟩))
    go_ret
    exact ⟨rfl, HB7.out.trans (hb8.mono HB7.out.size)⟩
  · obtain ⟨hne, hd, v, rfl⟩ := h
    have HNE := Lib.hid hne
    have HD := Lib.hid hd
    clear hne hd
    have hM5 := HM4.out.below hb5
    have hB5 := HB4.out.trans (hb5.mono HB4.out.size)
    have HO5 := Lib.hid (own_keep HO4.out fun i _ hi => hb5.block i hi)
    have HS5 := Lib.hid (Nat.le_trans HS4.out hb5.size)
    have HLO := Lib.hid (load_any _ _ _ _ A1 cap1 l HL1.out.1 HC1.out (by have := HL1.out.2; omega) w5 HS5.out hM5 ((HR1.out.below hB5).more hB5.size))
    have HB5 := Lib.hid hB5
    have HL5 := Lib.hid hL5
    have HE5 := Lib.hid hE5
    have HM5 := Lib.hid hM5
    clear hb5 hM5 hB5 hL5 hE5 HRA HO4 HB4 HM4
    go_wp2_with fail
    refine HLO.out.mono ?_
    rintro e w6 ⟨L6, r6, hL6, hE6, h | h⟩
    case inl => exact absurd ((both_told hE6 HE5.out hL6 HL5.out (.inl h.1) (.inr HD.out)).symm.trans h.1) HNE.out
    obtain ⟨hne6, hd6, ⟨v6, ⟨x6, hx6, rfl⟩, rfl⟩, hb6⟩ := h
    have HB6 := Lib.hid (HB5.out.trans (hb6.mono HB5.out.size))
    have HO6 := Lib.hid (own_keep HO5.out fun i _ hi => hb6.block i hi)
    have HS6 := Lib.hid (Nat.le_trans HS5.out hb6.size)
    have hM6 := HM5.out.below hb6
    have HM6 := Lib.hid hM6
    have hat2 := at_any w6 hM6
    rw [HPP.out] at hat2
    have HAT2 := Lib.hid hat2
    have hx0 : (x6 == 0) = false := by simpa using hx6
    clear hb6 hM6 hat2 HLO HB5 HO5 hL6 hE6 hne6 hd6 hx6
    have HLO2 := Lib.hid (load_any _ _ _ _ A2 c2 (encs CL) (by rw [encs_len]; exact HCP.out.1) HCP.out.2 (by rw [encs_len]; omega) w6 HS6.out HM6.out (Rd.of_own HO6.out))
    rw [encs_len] at HLO2
    go_wp2_with (go_at_call 22; refine HAT2.out.mono ?_; rintro e w' ⟨rfl, rfl⟩; clear HAT2)
    refine HLO2.out.mono ?_
    intro e w7 hld2
    obtain ⟨rfl, hT7, A7, c7, hM7⟩ := hld2.enc HOK.out
    have HB7 := Lib.hid (turn_below hT7 HB6.out HB6.out.size (by simp) (by simp))
    have hat3 : Calls Try.prog 22 #[.pointer (some ⟨w.heap.size + 1, 0, none⟩)] w7 fun e w' => e = .returned (.int .i64 0) ∧ w7 = w' := at_any w7 hM7
    have HAT3 := Lib.hid hat3
    clear hld2 hT7 hM7 hat3 HLO2 HB6 HO6
    go_wp2_with (first
      | (go_at_call 22; refine HAT3.out.mono ?_; rintro e w' ⟨rfl, rfl⟩; clear HAT3)
      | (go_at_call 19; refine (known_any _).mono ?_; rintro e w8 ⟨rfl, hb8⟩))
    go_ret
    exact ⟨rfl, HB7.out.trans (hb8.mono HB7.out.size)⟩
end Go.Proofs.Ytaghblcboimbpaa

/-
  innkeeperlaw2.GcodeAny returns true: its walk.
-/
import Derived.Test.YtmgjojgjonighaaDoorGk1
import Derived.Test.YtmgjojgjonighaaDoorBytes
import Derived.Deep.QuietTactic
import Derived.BigQuiet
import Derived.Outline
namespace Go.Proofs.YtmgjojgjonighaaDoor
open Go.RowKit
set_option linter.unusedSimpArgs false
set_option linter.unusedVariables false

set_option maxRecDepth 100000 in
set_option maxHeartbeats 1000000 in
theorem gcodeAny_walk (A0 : Option Addr) (len0 cap0 : Nat) (z0 : List Int) (w : World) (w0 : IsRow .u8 w A0 len0 cap0 z0) (ht : Tab w.heap.size w) :
    Calls Tryd.prog 6 #[.slice A0 len0 cap0] w fun e w' => e = .returned (.bool true) ∧ Below w.heap.size w w' := by
  obtain ⟨hl, hc, hA, l, rfl, hr⟩ := w0.bytes
  have HT := Lib.hid ht
  have e200 : min l.length 200 = (l.take 200).length := by rw [List.length_take]; omega
  have hcut := cut_any A0 l.length cap0 200 hl hc hA
  rw [e200] at hcut
  have hr2 : Rd w w.heap.size A0 (bv (l.take 200)) := by
    have := hr.take 200
    simpa [bv, List.map_take] using this
  have hm : (l.take 200).length ≤ 200 := by rw [List.length_take]; omega
  have hl2 : (l.take 200).length ≤ cap0 := by rw [List.length_take]; omega
  have HC := Lib.hid hcut
  clear hcut hr e200 ht w0 hl
  generalize l.take 200 = b at *
  have hall := all_any A0 cap0 b hl2 hc hA (by omega) w hr2
  have HL := Lib.hid hall
  have HR := Lib.hid hr2
  have HA := Lib.hid hA
  clear hall hr2 hA
  go_enter Tryd.func6, Tryd.ntmps6
  go_wp2_with (first
    | (go_at_call 19; refine (HC.out _).mono ?_; rintro e w' ⟨rfl, rfl⟩)
    | (go_at_call 17; refine HL.out.mono ?_; rintro e w1 ⟨L, a, A1, c1, rfl, ha, hL, hE, hD, hO, hB⟩; have HO := Lib.hid hO; have HB := Lib.hid hB; have HE := Lib.hid hE; have HD := Lib.hid hD; have HLL := Lib.hid hL; have hz := hB.size; clear hO hB hE hD hL))
  have hll := (encs_len L HLL.out).1
  have hel : (encs L).length = a := by rw [HE.out, List.length_take]; omega
  have hjoin := join_any A1 c1 L (by omega) (fun p hp => (HLL.out p hp).2) w1 (RdI.of_own HO.out)
  refine hjoin.mono ?_
  rintro e w2 ⟨hB2, hJ, _⟩
  obtain ⟨A2, c2, rfl, hO2⟩ := hJ fun p hp => (HLL.out p hp).1
  rw [hel] at hO2 ⊢
  have hz2 := hB2.size
  have hcv1 : ∀ m, (convert 27 9 (.slice A2 a c2)).run Tryd.prog (w2.drewN m) = .ok (.string ⟨(encs L).toArray⟩) (w2.drewN m) := fun m => by
    have := conv_rd (w2.drewN m) w2.heap.size A2 c2 (encs L) (Rd.of_own (w := w2) (by rw [← hel] at hO2; exact hO2))
    rw [hel] at this; exact this
  have hcv2 : ∀ m, (convert 27 9 (.slice A0 a cap0)).run Tryd.prog (w2.drewN m) = .ok (.string ⟨(encs L).toArray⟩) (w2.drewN m) := fun m => by
    have h3 : Rd w2 w.heap.size A0 (bv (b.take a)) := by
      have := ((HR.out.below HB.out).below (hB2.mono hz)).take a
      simpa [bv, List.map_take] using this
    have := conv_rd (w2.drewN m) w.heap.size A0 cap0 (b.take a) h3
    rw [← HE.out, hel] at this; exact this
  have hsl := slice_hi A0 b.length cap0 a (by omega) hc HA.out
  have HB3 := Lib.hid (HB.out.trans (hB2.mono hz))
  have HE2 := Lib.hid hel
  clear hO2 hB2 hjoin hJ hel hll
  generalize (⟨(encs L).toArray⟩ : ByteArray) = R at *
  go_wp2_with fail
  go_quiet (fail)
  have HB4 := Lib.hid (Below_drewN HB3.out nq)
  clear hcv1 hcv2 hsl HB3
  generalize w2.drewN nq = w3 at *
  have hz3 := HB4.out.size
  by_cases hend : a < b.length
  · have hr3 := (HR.out.below HB4.out)
    obtain ⟨g, off, rfl, hg, _⟩ := HR.out (by rw [bv_length]; omega)
    have hca : ¬ cap0 = a := by omega
    have hd := decode_any (some ⟨g, off + a, none⟩) (cap0 - a) (b.drop a) (by rw [List.length_drop]; omega) (by omega) w3 (by
      have h1 := (hr3.more hz3).drop a
      have e : (bv b).drop a = bv (b.drop a) := by simp [bv, List.map_drop]
      rw [← e]; exact h1)
    rw [List.length_drop] at hd
    have hne : dcE (b.drop a) ≠ 0 := HD.out
    have hs0 : dcS (b.drop a) = 0 := by simp [dcS, hne]
    rw [hs0] at hd
    have hne' : (dcE (b.drop a) != 0) = true := by simpa using hne
    have HDD := Lib.hid hd
    clear hd hs0 hne hr3
    generalize dcE (b.drop a) = EE at *
    generalize dcO (b.drop a) = OO at *
    generalize dcN (b.drop a) = NN at *
    unfold maxLen at hc
    go_wp2_with (first
      | (go_at_call 18; refine HDD.out.mono ?_; rintro e w4 ⟨rfl, hb4⟩; have hz4 := hb4.size; have HB5 := Lib.hid ((HB4.out.trans (hb4.mono hz3)).alloc (by omega) (.cells #[.int .i64 OO, .int .u32 NN] 26)); clear hb4)
      | (go_at_call 11; refine (known_any _ ((HT.out.on HB5.out).up (by simp; omega))).mono ?_; rintro e w5 ⟨rfl, hb5⟩))
    go_ret
    exact ⟨rfl, HB5.out.trans (hb5.mono (by simp; omega))⟩
  · go_wp2_with (go_at_call 11; refine (known_any _ ((HT.out.on HB4.out).up hz3)).mono ?_; rintro e w5 ⟨rfl, hb5⟩)
    go_ret
    exact ⟨rfl, HB4.out.trans (hb5.mono hz3)⟩
end Go.Proofs.YtmgjojgjonighaaDoor

/-
  innkeeperlaw5.FramesPlays returns true: its walk.
-/
import Derived.Test.YtjjcbkmdmdkgiaaPd5
namespace Go.Proofs.Ytjjcbkmdmdkgiaa
open Go.RowKit
set_option linter.unusedSimpArgs false
set_option linter.unusedVariables false

section
variable {g h : Nat} {S : Po}
/-- do, of any kind -/
theorem do_any (q : Ax) (w0 w : World) (hq : q.In w0) (hb : Below w0.heap.size w0 w) (hg : w0.heap.size ≤ g) (hh : w0.heap.size ≤ h) (hgh : g ≠ h) (hP : IsP w g S) (hR : IsR w h S) :
    Calls Try.prog 9 #[.pointer (some ⟨g, 0, none⟩), .pointer (some ⟨h, 0, none⟩), askV q.k q.o q.n q.A q.len q.cap q.b] w (Did g h w) := by
  obtain ⟨hl, hc, hA, l, hlen, hwf, hrd⟩ := hq.l.rd
  have hrd2 : Rd w w0.heap.size q.A (iv l) := hrd.below hb
  have r1 := Rdx.of_rd hrd2 hg hP.z
  have r2 := Rdx.of_rd hrd2 hh hR.z
  have hb2 := u8_of_wf hq.b
  by_cases h1 : q.k = 1
  · rw [h1]; exact do_1 _ _ _ _ _ _ w hgh hP hR
  by_cases h2 : q.k = 2
  · rw [h2]; exact do_2 _ _ _ _ _ _ w hgh hP hR
  by_cases h3 : q.k = 3
  · rw [h3]; exact do_3 _ _ _ _ _ _ l hlen.symm hl hc hA w hgh hP hR r1 r2
  by_cases h4 : q.k = 4
  · rw [h4]; exact do_4 _ _ _ _ _ _ w hgh hP hR
  by_cases h5 : q.k = 5
  · rw [h5]; exact do_5 _ _ _ _ _ _ hb2 w hgh hP hR
  exact do_0 _ _ _ _ _ _ _ ⟨h1, h2, h3, h4, h5⟩ w hP hR
end

set_option maxRecDepth 100000 in
set_option maxHeartbeats 4000000 in
theorem framesPlays_walk (A0 : Option Addr) (len0 cap0 : Nat) (L0 : List Ax) (w : World) (w0 : RowK w A0 len0 cap0 L0) :
    Calls Try.prog 3 #[.slice A0 len0 cap0] w fun e w' => e = .returned (.bool true) ∧ Below w.heap.size w w' := by
  obtain ⟨hlen, hl0, hc0, hA0, hcells, hin⟩ := w0
  have HLEN := Lib.hid hlen
  have HC := Lib.hid hcells
  have HIN := Lib.hid hin
  unfold maxLen at hc0
  clear hlen hcells hin hA0
  go_enter Try.func3, Try.ntmps3
  go_wp2_with fail
  refine (newP_any _).mono ?_
  rintro e w1 ⟨rfl, hp1, hb1⟩
  have HQ1 := Lib.hid hp1
  have HB1 := Lib.hid hb1
  have hg1 := hp1.z
  clear hp1 hb1
  go_wp2_with fail
  refine (newR_any _).mono ?_
  rintro e w2 ⟨rfl, hr2, hb2⟩
  have HQ2 := Lib.hid (HQ1.out.below hb2)
  have HR2 := Lib.hid hr2
  have HB2 := Lib.hid (HB1.out.trans (hb2.mono (Nat.le_of_lt hg1)))
  clear hr2 hb2 HQ1 HB1
  generalize hG : w.heap.size = g at *
  generalize w1.heap.size = h at *
  have HG := Lib.hid hG
  clear hG
  have hgh : g ≠ h := by omega
  have hgle : g ≤ h := by omega
  go_wp2_with fail
  go_loopw [5] (fun i wr => ∃ (k : Nat) (S : Po), k ≤ 80 ∧ k ≤ len0 ∧ i = .int .i64 k ∧ Hid (IsP wr g S) ∧ Hid (IsR wr h S) ∧ Hid (Below g w wr)) (fun i _ => 80 - (intOf i).toNat)
  case atStart => exact ⟨0, po0, by omega, by omega, rfl, HQ2, HR2, HB2⟩
  case round =>
    clear HQ2 HR2 HB2
    obtain ⟨k, S, hk, hkn, rfl, hQ, hR, hB⟩ := hrel
    have hz := hQ.out.z
    by_cases hlt : k < len0 ∧ k < 80
    · obtain ⟨h1, h2⟩ := hlt
      have hkl : k < L0.length := by have := HLEN.out; omega
      obtain ⟨b, off, rfl, hbg, hc⟩ := HC.out (by omega)
      have hbg' : b < g := by have := HG.out; omega
      have key := fun j u hu => (hB.out.cell (p := ⟨b, off + k * 5 + j, none⟩) hbg').trans (hc k hkl j u hu)
      have e0 := key 0 _ rfl
      have e1 := key 1 _ rfl
      have e2 := key 2 _ rfl
      have e3 := key 3 _ rfl
      have e4 := key 4 _ rfl
      rw [Nat.add_zero] at e0
      have hdo := do_any (S := S) (g := g) (h := h) L0[k] w wr (HIN.out _ (List.getElem_mem hkl)) (by rw [HG.out]; exact hB.out) (by rw [HG.out]; exact Nat.le_refl _) (by rw [HG.out]; exact hgle) hgh hQ.out hR.out
      have HDO := Lib.hid hdo
      unfold Did at HDO
      clear hc key hdo
      generalize L0[k] = q at *
      clear hkl
      go_wp2_with (go_at_call 9; refine HDO.out.mono ?_; rintro e w3 ⟨rfl, ⟨S', hp3, hr3⟩, ht3⟩
                   have HP3 := Lib.hid hp3
                   have HR3 := Lib.hid hr3
                   have HB3 := Lib.hid (ht3.below (Nat.le_refl _) hgle hB.out (Nat.le_of_lt hz))
                   clear hp3 hr3 ht3)
      go_roundw
      case rel => exact ⟨k + 1, S', by omega, by omega, by go_num, HP3, HR3, HB3⟩
      case measure => simp [intOf]; omega
    · rcases (show len0 ≤ k ∨ (k < len0 ∧ 80 ≤ k) by omega) with hex | ⟨hex, hex2⟩
      all_goals
        clear hlt
        go_wp2_with (first
          | (go_at_call 10; refine (alike_any _ hQ.out hR.out).mono ?_; rintro e w3 ⟨rfl, hb3⟩; have HB3 := Lib.hid hb3; clear hb3)
          | (go_at_call 11; refine (known_any _).mono ?_; rintro e w4 ⟨rfl, hb4⟩; have HB4 := Lib.hid hb4; clear hb4))
        go_ret
        have hh := HG.out
        subst hh
        exact ⟨rfl, (hB.out.trans (HB3.out.mono hB.out.size)).trans (HB4.out.mono (by have := hB.out.size; have := HB3.out.size; omega))⟩
end Go.Proofs.Ytjjcbkmdmdkgiaa

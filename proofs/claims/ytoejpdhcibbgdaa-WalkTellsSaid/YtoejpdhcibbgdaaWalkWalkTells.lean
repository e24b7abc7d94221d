/-
  innkeeperlaw8.WalkTells returns true: its walk.
-/
import Derived.Test.YtoejpdhcibbgdaaWz
import Derived.Test.YtoejpdhcibbgdaaWsa
import Derived.Outline
namespace Go.Proofs.Ytoejpdhcibbgdaa
open Go.RowKit
set_option linter.unusedSimpArgs false
set_option linter.unusedVariables false

/-- what the loops of law 8 hold: a memory of n pages beside the document's -/
def Both8 (n : Nat) (wa : World) (p : Bl) (q b t : Nat) (w : World) : Prop := ∃ X : Rm, X.n = n ∧ Pr wa wa.heap.size p q b t w X X
theorem same8_at {n : Nat} {wa w : World} {p : Bl} {q b t : Nat} (h : Both8 n wa p q b t w) (r v : Nat) (hr : r < 4294967296) (hv : v < 4294967296) (k : Int) (s : Bool) :
    Calls Try.prog 13 #[.pointer (some ⟨p.m, 0, none⟩), .pointer (some ⟨q, 0, none⟩), .int .u32 r, .int .u32 v, .int .i64 k, .bool s] w fun e w' => e = .returned (.bool true) ∧ Both8 n wa p q b t w' := by
  obtain ⟨X, hn, hP⟩ := h
  refine (same8_any r v hr hv k s w (Nat.le_refl _) hP).mono ?_
  rintro e w' ⟨rfl, h2⟩
  exact ⟨rfl, X.doS r v k s, by rw [doS_n]; exact hn, hP.trans h2⟩
theorem Both8.below {n : Nat} {wa w : World} {p : Bl} {q b t : Nat} (h : Both8 n wa p q b t w) : Below wa.heap.size wa w := by
  obtain ⟨X, _, hP⟩ := h
  exact hP.d.b
set_option maxRecDepth 100000 in
set_option maxHeartbeats 4000000 in
theorem walkTells_walk (A0 : Option Addr) (len0 cap0 : Nat) (L0 : List Ap) (A1 : Option Addr) (len1 cap1 : Nat) (z1 : List Int) (A2 : Option Addr) (len2 cap2 : Nat) (z2 : List Int) (a3 : Int) (w : World) (w0 : RowP w A0 len0 cap0 L0) (w1 : IsRow .u32 w A1 len1 cap1 z1) (w2 : IsRow .i64 w A2 len2 cap2 z2) (w3 : (Lit.int .u32 a3).wf = true) :
    Calls Try.prog 4 #[.slice A0 len0 cap0, .slice A1 len1 cap1, .slice A2 len2 cap2, .int .u32 a3] w fun e w' => e = .returned (.bool true) ∧ Below w.heap.size w w' := by
  obtain ⟨L, hl, hL, htb⟩ := tables_row w0
  obtain ⟨hl1, hc1, _, l, hlen, hwf, hrd⟩ := w1.rd
  obtain ⟨hl2, hc2, _, u, hlenu, hwfu, hrdu⟩ := w2.rd
  obtain ⟨y0, y1⟩ := u32_of_wf w3
  obtain ⟨r0, rfl⟩ := Int.eq_ofNat_of_zero_le y0
  have hr0 : r0 < 4294967296 := by omega
  have HR0 := Lib.hid hr0
  have HRD := Lib.hid hrd
  have HWF := Lib.hid hwf
  have HLEN := Lib.hid hlen
  have HRU := Lib.hid hrdu
  have HLU := Lib.hid hlenu
  have hb1 : len1 ≤ 9223372036854775807 := by unfold maxLen at hc1; omega
  have hb2 : len2 ≤ 9223372036854775807 := by unfold maxLen at hc2; omega
  have HTB := Lib.hid htb
  have HL := Lib.hid (And.intro hl hL)
  clear hl hL htb w0 w1 w2 w3 y0 y1 hrd hwf hlen hrdu hwfu hlenu hc1 hc2 hl1 hl2 hr0
  go_enter Try.func4, Try.ntmps4
  go_wp2_with (first
    | (go_at_call 12; refine HTB.out.mono ?_; rintro e wa ⟨g, rfl, hR, hba⟩; have HA := Lib.hid hba; have HR := Lib.hid hR; clear hR hba HTB)
    | (go_at_call 11; refine (both_row HL.out.1 HL.out.2 g wa HR.out).mono ?_; rintro e wb ⟨p, q, b, t, X, rfl, hn, hP⟩; have HP := Lib.hid (show Both8 8 wa p q b t wb from ⟨X, hn, hP⟩); clear hP hn HR HL))
  have hz := HA.out.size
  go_loopw [11] (fun i wr => ∃ k : Nat, k ≤ len1 ∧ k ≤ 20 ∧ i = .int .i64 k ∧ Hid (Both8 8 wa p q b t wr)) (fun i _ => 20 - (intOf i).toNat)
  case atStart => exact ⟨0, by omega, by omega, rfl, HP⟩
  case round =>
    clear HP
    obtain ⟨k, hk, hk20, rfl, hP⟩ := hrel
    have hB := HA.out.trans (hP.out.below.mono hz)
    by_cases hlt : k < len1 ∧ k < 20
    · obtain ⟨h1, h2⟩ := hlt
      have hkl : k < l.length := by have := HLEN.out; omega
      obtain ⟨b1, off, rfl, hbg, hc⟩ := HRD.out (by rw [List.length_map]; omega)
      have hck := (hB.cell (p := ⟨b1, off + k, none⟩) hbg).trans (hc k (.int .u32 l[k]) (by simp [List.getElem?_eq_getElem hkl]))
      obtain ⟨x0, x1⟩ := u32_of_wf (HWF.out _ (List.getElem_mem hkl))
      generalize l[k] = x at *
      obtain ⟨v, rfl⟩ := Int.eq_ofNat_of_zero_le x0
      have i1 : (k : Int) < (len1 : Int) := by omega
      have i2 : (k : Int) < 20 := by omega
      have hS := same8_at hP.out
      have hvx : v < 4294967296 := by omega
      -- which kind
      obtain ⟨kd, hkd⟩ : ∃ kd : Int, ((k : Int) < (len2 : Int) ∧ ∃ b2 off2, A2 = some ⟨b2, off2, none⟩ ∧ wr.cell? ⟨b2, off2 + k, none⟩ = some (.int .i64 kd)) ∨ ((len2 : Int) ≤ (k : Int) ∧ kd = 2) := by
        by_cases h : k < len2
        · have hku : k < u.length := by have := HLU.out; omega
          obtain ⟨b2, off2, rfl, hbg2, hc2⟩ := HRU.out (by rw [List.length_map]; omega)
          exact ⟨u[k], .inl ⟨by omega, b2, off2, rfl, (hB.cell (p := ⟨b2, off2 + k, none⟩) hbg2).trans (hc2 k (.int .i64 u[k]) (by simp [List.getElem?_eq_getElem hku]))⟩⟩
        · exact ⟨2, .inr ⟨by omega, rfl⟩⟩
      have t1 : ((v : Int)).tmod 4096 = ((v % 4096 : Nat) : Int) := by rw [Int.tmod_eq_emod_of_nonneg (by omega)]; omega
      have e3 : ((k : Int)).tmod 3 = ((k % 3 : Nat) : Int) := by rw [Int.tmod_eq_emod_of_nonneg (by omega)]; omega
      have e5 : ((k : Int)).tmod 5 = ((k % 5 : Nat) : Int) := by rw [Int.tmod_eq_emod_of_nonneg (by omega)]; omega
      -- which address, which root
      obtain ⟨va, hva, hva2⟩ : ∃ va : Nat, va < 4294967296 ∧ (((0 : Int) < ((k % 3 : Nat) : Int) ∧ va = v % 4096) ∨ (((k % 3 : Nat) : Int) = 0 ∧ va = v)) := by
        by_cases h : 0 < k % 3
        · exact ⟨v % 4096, by omega, .inl ⟨by omega, rfl⟩⟩
        · exact ⟨v, hvx, .inr ⟨by omega, rfl⟩⟩
      obtain ⟨rr, hrr, hrr2⟩ : ∃ rr : Nat, rr < 4294967296 ∧ ((((k % 5 : Nat) : Int) = 4 ∧ rr = r0) ∨ ((((k % 5 : Nat) : Int) == 4) = false ∧ rr = 0)) := by
        by_cases h : k % 5 = 4
        · exact ⟨r0, HR0.out, .inl ⟨by omega, rfl⟩⟩
        · exact ⟨0, by omega, .inr ⟨by simp; omega, rfl⟩⟩
      have hSS := hS rr va hrr hva kd
      clear hS hc hkl hbg hrr hva hvx hB
      have HS := Lib.hid hSS
      clear hSS h1 h2
      generalize ((k % 3 : Nat) : Int) = m3 at *
      generalize ((k % 5 : Nat) : Int) = m5 at *
      rcases hkd with ⟨h, b2, off2, rfl, c2⟩ | ⟨h, rfl⟩
      all_goals rcases hva2 with ⟨h3, rfl⟩ | ⟨h3, rfl⟩
      all_goals rcases hrr2 with ⟨h5, rfl⟩ | ⟨h5, rfl⟩
      all_goals
        (try generalize ((v % 4096 : Nat) : Int) = v4 at *)
        (try generalize ((v : Nat) : Int) = vI at *)
        (try generalize ((va : Nat) : Int) = vI at *)
        clear HLEN
        go_wp2_with (go_at_call 13; refine (HS.out _).mono ?_; rintro e wc ⟨rfl, hP2⟩; have HP2 := Lib.hid hP2; clear hP2 HS)
        go_roundw
        case rel => exact ⟨k + 1, by omega, by omega, by go_num, HP2⟩
        case measure => simp [intOf]; omega
    · have hB2 := Lib.hid hB
      clear hB
      rcases (show len1 = k ∨ (k < len1 ∧ 20 ≤ k) by omega) with hex | ⟨hex, hex2⟩
      · have i1 : ((k : Int) < (len1 : Int)) = False := by rw [hex]; simp
        have i2 : decide ((k : Int) < (len1 : Int)) = false := by rw [hex]; simp
        clear hex hlt hk hk20
        go_wp2_with (go_at_call 15; refine (known8_any _).mono ?_; rintro e wk ⟨rfl, hk⟩; have HK := Lib.hid hk; clear hk)
        go_ret
        exact ⟨rfl, hB2.out.trans (HK.out.mono hB2.out.size)⟩
      · have i1 : (k : Int) < (len1 : Int) := by omega
        have i2 : decide ((k : Int) < 20) = false := by simp; omega
        clear hex hex2 hlt hk hk20
        go_wp2_with (go_at_call 15; refine (known8_any _).mono ?_; rintro e wk ⟨rfl, hk⟩; have HK := Lib.hid hk; clear hk)
        go_ret
        exact ⟨rfl, hB2.out.trans (HK.out.mono hB2.out.size)⟩
end Go.Proofs.Ytoejpdhcibbgdaa

/-
  innkeeperlaw8's tables: A CONTRACT.
-/
import Derived.Test.YtoejpdhcibbgdaaWr
import Derived.Test.YtoejpdhcibbgdaaRowP
import Derived.Test.YtoejpdhcibbgdaaWi
import Derived.Deep.QuietTactic
namespace Go.Proofs.Ytoejpdhcibbgdaa
open Go.RowKit
set_option linter.unusedSimpArgs false
set_option linter.unusedVariables false

/-- four bytes of a word, the first j of them, written to a row -/
def wr4 (F : Nat → Int) (a : Nat) (v : Int) (j : Nat) : Nat → Int := fun i => if a ≤ i ∧ i < a + j then (w4 v).getD (i - a) 0 else F i
theorem wr4_zero (F : Nat → Int) (a : Nat) (v : Int) : wr4 F a v 0 = F := by
  funext i; unfold wr4; rw [if_neg (by omega)]
theorem wr4_succ (F : Nat → Int) (a : Nat) (v : Int) (j i : Nat) : wr4 F a v (j + 1) i = upd (wr4 F a v j) (a + j) ((w4 v).getD j 0) i := by
  by_cases e : i = a + j
  · subst e; rw [upd_same]; unfold wr4; rw [if_pos (by omega), show a + j - a = j by omega]
  · rw [upd_other _ _ _ _ e]; unfold wr4
    by_cases h : a ≤ i ∧ i < a + j
    · rw [if_pos h, if_pos (by omega)]
    · rw [if_neg h, if_neg (by omega)]
/-- where an entry is put, and what -/
def Ap.at4 (q : Ap) : Nat := (wdV q.k 0 1000 % 48).toNat * 4
def Ap.v0 (q : Ap) : Int := bits .or .u32 (wdV q.a 0 1000 % 10 * 256) (q.v % 128)
def Ap.val (q : Ap) : Int := if q.v / 256 % 4 > 0 then bits .or .u32 q.v0 1 else q.v0
/-- the bytes of a table -/
def tbF (Q : List Ap) : Nat → Nat → Int
  | 0 => fun _ => 0
  | k + 1 => wr4 (tbF Q k) (Q.getD k ⟨0, 0, 0⟩).at4 (Q.getD k ⟨0, 0, 0⟩).val 4
theorem v0_bd (q : Ap) (h : q.In) : 0 ≤ q.v0 ∧ q.v0 < 4294967296 := by
  have := wdV_bd q.a 0 1000 (by omega)
  unfold Ap.v0
  exact u32_of_nat .or (by simp) _ _ (by omega) (by omega) (by omega) (by omega)
theorem val_bd (q : Ap) (h : q.In) : 0 ≤ q.val ∧ q.val < 4294967296 := by
  have := v0_bd q h
  unfold Ap.val
  split
  · exact u32_of_nat .or (by simp) _ _ (by omega) (by omega) (by omega) (by omega)
  · exact this
theorem w4_get_bd {v : Int} (hv : 0 ≤ v ∧ v < 4294967296) (j : Nat) (hj : j < 4) : 0 ≤ (w4 v).getD j 0 ∧ (w4 v).getD j 0 < 256 := by
  refine w4_bd hv ?_
  have : j < (w4 v).length := hj
  rw [List.getD_eq_getElem?_getD, List.getElem?_eq_getElem this]
  exact List.getElem_mem _
theorem tbF_bd {Q : List Ap} (h : ∀ q ∈ Q, q.In) : ∀ (k : Nat), k ≤ Q.length → ∀ j, 0 ≤ tbF Q k j ∧ tbF Q k j < 256
  | 0, _, _ => by unfold tbF; omega
  | k + 1, hk, j => by
    have ih := tbF_bd h k (by omega) j
    have hq : (Q.getD k ⟨0, 0, 0⟩).In := by
      rw [List.getD_eq_getElem?_getD, List.getElem?_eq_getElem (show k < Q.length by omega)]
      exact h _ (List.getElem_mem _)
    show 0 ≤ wr4 _ _ _ 4 j ∧ wr4 _ _ _ 4 j < 256
    unfold wr4
    split
    · exact w4_get_bd (val_bd _ hq) _ (by omega)
    · exact ih
/-- the slice leads to these entries -/
def RdP (w : World) (A : Option Addr) (Q : List Ap) : Prop :=
  0 < Q.length → ∃ b off, A = some ⟨b, off, none⟩ ∧ b < w.heap.size ∧ ∀ (i : Nat) (h : i < Q.length) (j : Nat) (u : Value), (Q[i]).cs[j]? = some u → w.cell? ⟨b, off + i * 3 + j, none⟩ = some u
set_option maxRecDepth 100000 in
set_option maxHeartbeats 4000000 in
theorem tables_any (A : Option Addr) (len c : Nat) (Q : List Ap) (hlen : Q.length = len) (hl : len ≤ 9223372036854775807) (w : World) (hR : RdP w A Q) (hin : ∀ q ∈ Q, q.In) :
    Calls Try.prog 12 #[.slice A len c] w (NewB (tbF Q (min len 40)) 512 (fun A => .slice A 512 512) w) := by
  have hmk := make_u8 .i64 512 (by omega)
  simp only [Int.cast_ofNat_Int] at hmk
  have HNB := Lib.hid (new_u8 512 w)
  generalize madeCells #[Value.int .u8 0] 512 = Z at *
  have HR := Lib.hid hR
  have HIN := Lib.hid hin
  have HLEN := Lib.hid hlen
  clear hR hin hlen
  unfold NewB
  go_enter Try.func12, Try.ntmps12
  go_wp2_with fail
  go_loopw [4] (fun i wr => ∃ k : Nat, k ≤ len ∧ k ≤ 40 ∧ i = .int .i64 k ∧ Hid (IsB wr w.heap.size 512 (tbF Q k)) ∧ Hid (Below w.heap.size w wr)) (fun i _ => len - (intOf i).toNat)
  case atStart => exact ⟨0, by omega, by omega, rfl, HNB, Lib.hid ((Below.refl _ _).alloc (Nat.le_refl _) _)⟩
  case round =>
    obtain ⟨k, hk, hk40, rfl, hB, hW⟩ := hrel
    have hz := hW.out.size
    by_cases hlt : k < len ∧ k < 40
    · obtain ⟨h1, h2⟩ := hlt
      have hkl : k < Q.length := by have := HLEN.out; omega
      obtain ⟨b, off, rfl, hbz, hc⟩ := HR.out (by omega)
      have hq := HIN.out _ (List.getElem_mem hkl)
      have hcc := fun j u (h : (Q[k]).cs[j]? = some u) => (hW.out.cell (p := ⟨b, off + k * 3 + j, none⟩) hbz).trans (hc k hkl j u h)
      have hst : tbF Q (k + 1) = wr4 (tbF Q k) (Q[k]).at4 (Q[k]).val 4 := by
        show wr4 _ (Q.getD k ⟨0, 0, 0⟩).at4 (Q.getD k ⟨0, 0, 0⟩).val 4 = _
        rw [List.getD_eq_getElem?_getD, List.getElem?_eq_getElem hkl]; rfl
      have hvb := val_bd _ hq
      have hv0 := v0_bd _ hq
      generalize Q[k] = q at *
      have c0 := hcc 0 _ rfl
      have c1 := hcc 1 _ rfl
      have c2 := hcc 2 _ rfl
      rw [Nat.add_zero] at c0
      obtain ⟨p0, p1⟩ := i64_of_wf hq.k
      obtain ⟨p2, p3⟩ := i64_of_wf hq.a
      have p4 := u32_of_wf hq.v
      have w1 := within_book q.k 1000 p0 p1 (by omega) (by omega)
      have w2 := within_book q.a 1000 p2 p3 (by omega) (by omega)
      have b1 := wdV_bd q.k 0 1000 (by omega)
      have b2 := wdV_bd q.a 0 1000 (by omega)
      have t1 : (wdV q.k 0 1000).tmod 48 = wdV q.k 0 1000 % 48 := Int.tmod_eq_emod_of_nonneg b1.1
      have t2 : (wdV q.a 0 1000).tmod 10 = wdV q.a 0 1000 % 10 := Int.tmod_eq_emod_of_nonneg b2.1
      have t3 : q.v.tmod 128 = q.v % 128 := Int.tmod_eq_emod_of_nonneg p4.1
      have t4 : (q.v / 256).tmod 4 = q.v / 256 % 4 := Int.tmod_eq_emod_of_nonneg (by omega)
      have e0 : bits .or .u32 (wdV q.a 0 1000 % 10 * 256) (q.v % 128) = q.v0 := rfl
      have ev : q.val = if q.v / 256 % 4 > 0 then bits .or .u32 q.v0 1 else q.v0 := rfl
      have ea : wdV q.k 0 1000 % 48 * 4 = ((q.at4 : Nat) : Int) := by unfold Ap.at4; omega
      have m1 : 0 ≤ wdV q.k 0 1000 % 48 := by omega
      have m2 : wdV q.k 0 1000 % 48 < 48 := by omega
      have m3 : 0 ≤ wdV q.a 0 1000 % 10 := by omega
      have m4 : wdV q.a 0 1000 % 10 < 10 := by omega
      have m5 : 0 ≤ q.v % 128 := by omega
      have m6 : q.v % 128 < 128 := by omega
      have m7 : 0 ≤ q.v / 256 % 4 := by omega
      have m8 : q.v / 256 % 4 < 4 := by omega
      have m9 : 0 ≤ q.v / 256 := by omega
      have m10 : q.v / 256 < 4294967296 := by omega
      have ha : q.at4 + 4 ≤ 512 := by omega
      have W1 := Lib.hid w1
      have W2 := Lib.hid w2
      have HQ := Lib.hid hst
      obtain ⟨v1, v2⟩ := hvb
      obtain ⟨v3, v4⟩ := hv0
      obtain ⟨p5, p6⟩ := p4
      generalize q.val = V at *
      generalize q.v0 = V0 at *
      generalize q.at4 = a at *
      generalize wdV q.k 0 1000 % 48 = pm at *
      generalize wdV q.a 0 1000 % 10 = gm at *
      generalize q.v % 128 = bm at *
      generalize q.v / 256 % 4 = s at *
      generalize wdV q.k 0 1000 = P at *
      generalize wdV q.a 0 1000 = G at *
      obtain ⟨qk, qa, qv⟩ := q
      have i1 : (k : Int) < (len : Int) := by omega
      have i2 : (k : Int) < 40 := by omega
      have i3 : (a : Int) < 508 + 1 := by omega
      simp only [] at *
      clear hcc hc hkl hst w1 w2 hq p0 p1 p2 p3 b1 b2
      have ev2 : (0 < s ∧ bits .or .u32 V0 1 = V) ∨ (s = 0 ∧ V = V0) := by
        by_cases hs : s > 0
        · rw [if_pos hs] at ev; exact .inl ⟨hs, ev.symm⟩
        · rw [if_neg hs] at ev; exact .inr ⟨by omega, ev⟩
      clear ev
      have HST := Lib.hid (fun n i => wr4_succ (tbF Q k) a V n i)
      have HW0 := Lib.hid (wr4_zero (tbF Q k) a V)
      generalize tbF Q k = F at *
      rcases ev2 with ⟨s0, ev⟩ | ⟨rfl, rfl⟩
      all_goals
        go_wp2_with (go_at_call 16; refine (W1.out _).mono ?_; rintro e w' ⟨rfl, rfl⟩)
        go_quiet ((go_at_call 16; exact quiet_l (W2.out _)))
        go_wp2_with fail
        go_loopw [7] (fun i wr2 => ∃ n : Nat, n ≤ 4 ∧ i = .int .i64 n ∧ Hid (IsB wr2 w.heap.size 512 (wr4 F a V n)) ∧ Hid (Below w.heap.size w wr2)) (fun i _ => 4 - (intOf i).toNat)
        case atStart => exact ⟨0, by omega, rfl, Lib.hid (by rw [HW0.out]; exact IsC.after hB.out (Below_drewN (Below.refl _ _) _)), Lib.hid (Below_drewN hW.out _)⟩
        case round =>
          obtain ⟨n, hn, rfl, hB2, hW2⟩ := hrel
          by_cases hlt4 : n < 4
          · have d1 := IsC.cell hB2.out (a + n) (by omega)
            have d2 := IsC.frozen hB2.out (a + n)
            have u1 : 0 ≤ V / 16777216 := by omega
            have u2 : V / 16777216 < 256 := by omega
            rcases (show n = 0 ∨ n = 1 ∨ n = 2 ∨ n = 3 by omega) with rfl | rfl | rfl | rfl
            · have hw4 : (w4 V).getD 0 0 = V % 256 := rfl
              rw [Nat.add_zero] at d1 d2
              have hst := HST.out 0
              rw [hw4] at hst
              have HC := Lib.hid ((IsB.set hB2.out (a + 0) (V % 256)).cast (F' := wr4 F a V (0 + 1)) fun j _ => hst j)
              clear hw4 hst
              go_wp2_with fail
              go_roundw
              case rel => exact ⟨1, by omega, by go_num, Lib.hid (by simpa using HC.out), Lib.hid (hW2.out.setCell (Nat.le_refl _) _)⟩
              case measure => simp [intOf]
            · have hw4 : (w4 V).getD 1 0 = V / 256 % 256 := rfl
              have hst := HST.out 1
              rw [hw4] at hst
              have HC := Lib.hid ((IsB.set hB2.out (a + 1) (V / 256 % 256)).cast (F' := wr4 F a V (1 + 1)) fun j _ => hst j)
              clear hw4 hst
              go_wp2_with fail
              go_roundw
              case rel => exact ⟨2, by omega, by go_num, Lib.hid (by simpa using HC.out), Lib.hid (hW2.out.setCell (Nat.le_refl _) _)⟩
              case measure => simp [intOf]
            · have hw4 : (w4 V).getD 2 0 = V / 65536 % 256 := rfl
              have hst := HST.out 2
              rw [hw4] at hst
              have HC := Lib.hid ((IsB.set hB2.out (a + 2) (V / 65536 % 256)).cast (F' := wr4 F a V (2 + 1)) fun j _ => hst j)
              clear hw4 hst
              go_wp2_with fail
              go_roundw
              case rel => exact ⟨3, by omega, by go_num, Lib.hid (by simpa using HC.out), Lib.hid (hW2.out.setCell (Nat.le_refl _) _)⟩
              case measure => simp [intOf]
            · have hw4 : (w4 V).getD 3 0 = V / 16777216 := rfl
              have hst := HST.out 3
              rw [hw4] at hst
              have HC := Lib.hid ((IsB.set hB2.out (a + 3) (V / 16777216)).cast (F' := wr4 F a V (3 + 1)) fun j _ => hst j)
              clear hw4 hst
              go_wp2_with fail
              go_roundw
              case rel => exact ⟨4, by omega, by go_num, Lib.hid (by simpa using HC.out), Lib.hid (hW2.out.setCell (Nat.le_refl _) _)⟩
              case measure => simp [intOf]
          · obtain rfl : n = 4 := by omega
            clear hlt4 hn
            go_wp2_with fail
            go_roundw
            case rel => exact ⟨k + 1, by omega, by omega, by go_num, by rw [HQ.out]; exact hB2, hW2⟩
            case measure => simp [intOf]; omega
    · have hmin : min len 40 = k := by omega
      have HB := Lib.hid hB.out
      rw [← hmin] at HB
      rcases (show len = k ∨ (k < len ∧ 40 ≤ k) by omega) with hex | ⟨hex, hex2⟩
      · have i1 : ((k : Int) < (len : Int)) = False := by rw [hex]; simp
        have i2 : decide ((k : Int) < (len : Int)) = false := by rw [hex]; simp
        clear hex hmin hlt hk hk40
        go_wp2_with fail
        go_ret
        exact ⟨w.heap.size, rfl, Nat.le_refl _, HB.out, hW.out⟩
      · have i1 : (k : Int) < (len : Int) := by omega
        have i2 : decide ((k : Int) < 40) = false := by simp; omega
        clear hex hex2 hmin hlt hk hk40
        go_wp2_with fail
        go_ret
        exact ⟨w.heap.size, rfl, Nat.le_refl _, HB.out, hW.out⟩
end Go.Proofs.Ytoejpdhcibbgdaa

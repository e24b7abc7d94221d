/-
  innkeeperlaw3.HcodeCuts returns true: its walk.
-/
import Derived.Test.YthobedekeebadaaRowI
import Derived.Test.YthobedekeebadaaHc7
import Derived.Test.YthobedekeebadaaHm
import Derived.Test.YthobedekeebadaaHk
import Derived.Deep.QuietTactic
import Derived.BigQuiet
import Derived.Outline
namespace Go.Proofs.Ythobedekeebadaa
open Go.RowKit
set_option linter.unusedSimpArgs false
set_option linter.unusedVariables false

set_option maxRecDepth 100000 in
set_option maxHeartbeats 2000000 in
theorem hcodeCuts_walk (A0 : Option Addr) (len0 cap0 : Nat) (L0 : List Hi) (a1 : Int) (w : World) (w0 : RowI w A0 len0 cap0 L0) (w1 : (Lit.int .i64 a1).wf = true) :
    Calls Try.prog 4 #[.slice A0 len0 cap0, .int .i64 a1] w fun e w' => e = .returned (.bool true) ∧ Below w.heap.size w w' := by
  obtain ⟨rfl, hl0, hc0, hA0, hr0, hin⟩ := w0
  obtain ⟨c0, c1⟩ := i64_of_wf w1
  have HR0 := Lib.hid hr0
  have HIN := Lib.hid hin
  clear hr0 hin hA0 w1
  unfold maxLen at hc0
  go_enter Try.func4, Try.ntmps4
  go_wp2_with fail
  go_loopw [5, 6] (fun s i wr => ∃ (L : List Hi) (As : Option Addr) (cs : Nat), s = .slice As L.length cs ∧ i = .int .i64 L.length ∧ L.length ≤ L0.length ∧ L.length ≤ 20 ∧ Hid (∀ p ∈ L, p.Ok) ∧ Hid (wr.ownsRow w.heap.size 26 5 (.slice As L.length cs) L.length (ivs L)) ∧ Hid (Below w.heap.size w wr)) (fun _ i _ => 20 - (intOf i).toNat)
  case atStart => exact ⟨[], none, 0, rfl, rfl, by simp, by simp, Lib.hid (by simp), Lib.hid (World.ownsRow_nil _ _ _ _), Below.refl _ _⟩
  case round =>
    obtain ⟨L, As, cs, rfl, rfl, b1, b2, hL, hO, hB⟩ := hrel
    have hz := hB.out.size
    by_cases hgo : L.length < L0.length ∧ L.length < 20
    · obtain ⟨g1, g3⟩ := hgo
      obtain ⟨bl, ol, rfl, hbl, hcl⟩ := HR0.out (by omega)
      obtain ⟨e1, e2, e3, e4, e5⟩ := hcl L.length g1
      have d1 := (hB.out.cell (p := ⟨bl, _, none⟩) hbl).trans e1
      have d2 := (hB.out.cell (p := ⟨bl, _, none⟩) hbl).trans e2
      have d3 := (hB.out.cell (p := ⟨bl, _, none⟩) hbl).trans e3
      have d4 := (hB.out.cell (p := ⟨bl, _, none⟩) hbl).trans e4
      have d5 := (hB.out.cell (p := ⟨bl, _, none⟩) hbl).trans e5
      obtain ⟨f1, f2, f3, f4, f5⟩ := HIN.out _ (List.getElem_mem g1)
      clear hcl e1 e2 e3 e4 e5
      generalize L0[L.length] = q at *
      obtain ⟨o, d, a, b, n⟩ := q
      simp only at d1 d2 d3 d4 d5 f1 f2 f3 f4
      have hmd := made_any o d a b n f1.1 f1.2 f2.1 f2.2 f3.1 f3.2 f4.1 f4.2
      have hok := mdI_ok o d a b n f5.1 f5.2
      generalize mdI o d a b n = m at *
      obtain ⟨mo, md, ma, mb, mn⟩ := m
      simp only [Hi.v] at hmd
      have HMD := Lib.hid hmd
      have HOK := Lib.hid hok
      have HX := Lib.hid (own_lt hO.out)
      clear hmd hok f1 f2 f3 f4 f5
      go_wp2_with (first
        | (go_at_call 5; refine (HMD.out _).mono ?_; rintro e w3 ⟨rfl, hb8⟩; have hz3 := hb8.size; have B3 := Lib.hid (hB.out.trans (hb8.mono hz)); have O3 := Lib.hid ((own_below hO.out hb8).alloc (.cells #[.int .i64 mo, .int .i64 md, .int .i64 ma, .int .i64 mb, .int .u32 mn] 26)); clear hb8)
        | (at_builtin; refine wpList_app rfl (.tmp 23) (.tmp 29) _ rfl w.heap.size 26 _ 5 40 Try.underlying22 Try.info_hi rfl (by omega) (.slice As L.length cs) L.length (ivs L) rfl O3.out w3.heap.size 1 1 _ _ _ rfl (heap_alloc_new _ _) rfl (by simp [Value.oneCell']) (by omega) (by unfold maxLen; omega) (by omega) (by simp; omega) ?_; intro g4 c4 w4 hx4; have O4 := Lib.hid hx4.own; have B4 := Lib.hid ((B3.out.alloc (by omega) _).trans (hx4.below (by simp; omega) O3.out)); clear hx4))
      go_roundw
      case rel =>
        refine ⟨L ++ [⟨mo, md, ma, mb, mn⟩], some ⟨g4, 0, none⟩, c4, by simp, by simp, by simp; omega, by simp; omega, ?_, ?_, B4⟩
        · apply Lib.hid; intro p hp
          rcases List.mem_append.1 hp with hp | hp
          · exact hL.out p hp
          · obtain rfl := List.mem_singleton.1 hp; exact HOK.out
        · apply Lib.hid
          have h := O4.out
          rw [ivs_append, List.length_append, List.length_singleton]
          simpa [ivs, Hi.cs] using h
      case measure => simp [intOf]; omega
    · have hend : (L0.length ≤ L.length) ∨ (L.length < L0.length ∧ 20 ≤ L.length) := by omega
      clear hgo
      have hj := join_any As cs L (by omega) (fun p hp => (hL.out p hp).2) wr (RdI.of_rd (Rd.of_row hO.out))
      have HJ := Lib.hid hj
      clear hj
      rcases hend with g1 | ⟨g1, g2⟩
      all_goals
        go_wp2_with fail
        refine HJ.out.mono ?_
        rintro e w2 ⟨hb2, hj2, _⟩
        obtain ⟨Ab, cb, rfl, hob⟩ := hj2 fun p hp => (hL.out p hp).1
        clear hj2
        have hz2 := hb2.size
        have B2 := Lib.hid (hB.out.trans (hb2.mono hz))
        have OS := Lib.hid (own_below hO.out hb2)
        obtain ⟨kk, hkk, hkb⟩ : ∃ kk : Nat, wdV a1 0 ((8 * L.length : Nat) : Int) = kk ∧ kk ≤ 8 * L.length := by
          have := wdV_bd a1 0 ((8 * L.length : Nat) : Int) (by omega)
          exact ⟨(wdV a1 0 ((8 * L.length : Nat) : Int)).toNat, by omega, by omega⟩
        have hwi := within_book a1 ((8 * L.length : Nat) : Int) c0 c1 (by omega) (by omega)
        rw [hkk] at hwi
        have hcap := own_cap hob
        have hnone := own_none hob
        have hsl := slice_hi Ab (8 * L.length) cb kk (by omega) hcap.2 hnone
        have hkl : ((encs L).take kk).length = kk := by rw [List.length_take, encs_len]; omega
        have hall := all_any Ab cb ((encs L).take kk) (by rw [hkl]; omega) hcap.2 (by rw [hkl]; omega) w2 (by
          have := (Rd.of_own hob).take kk
          simpa [bv, List.map_take] using this)
        rw [hkl] at hall
        have HWI := Lib.hid hwi
        have HALL := Lib.hid hall
        have HKL := Lib.hid hkl
        clear hwi hkk hcap hnone hall hkl hb2 hob
        simp only [Int.natCast_mul, Int.cast_ofNat_Int] at HWI
        go_wp2_with (first
          | (go_at_call 10; refine (HWI.out _).mono ?_; rintro e w' ⟨rfl, rfl⟩))
        refine HALL.out.mono ?_
        rintro e w3 ⟨hb3, M, r, hM, hE, hcase⟩
        have hz3 := hb3.size
        have B3 := Lib.hid (B2.out.trans (hb3.mono (by omega)))
        have OS3 := Lib.hid (own_below OS.out hb3)
        obtain ⟨q1, q2⟩ := cut_code L hL.out kk hkb M r hM hE (by
          rcases hcase with ⟨h, _⟩ | ⟨_, h, _⟩
          · rw [h]; exact dcE_nil
          · exact h)
        rcases hcase with ⟨hr, A5, c5, rfl, hO5⟩ | ⟨hr, hd, rfl⟩
        · have q3 : kk % 8 = 0 := by rw [hr] at q2; simp at q2; omega
          have q4 : M.length = kk / 8 := by rw [q1, List.length_take]; omega
          have hML : M.length ≤ L.length := by omega
          have hat : ∀ k (h : k < M.length) (h2 : k < L.length), M[k] = L[k] := fun k h h2 => by subst q1; simp
          have t1 : (((kk : Int) % 8) != 0) = false := by simp; omega
          have t2 : ((M.length : Int) != (kk : Int) / 8) = false := by simp; omega
          have RM := Lib.hid (RdI.of_rd (Rd.of_row (own_mono hO5 (B' := w.heap.size) (by omega))))
          have RS := Lib.hid (RdI.of_rd (Rd.of_row OS3.out))
          have HAT := Lib.hid hat
          clear q1 q2 hM hE hO5 hat hr hb3 OS OS3 HALL HWI hsl HKL hl0 hc0
          go_wp2_with fail
          obtain ⟨wo, rfl⟩ : ∃ wo : World, wo = w3 := ⟨_, rfl⟩
          go_loopw [12] (fun i wr => ∃ j : Nat, j ≤ M.length ∧ i = .int .i64 j ∧ Hid (Below wo.heap.size wo wr)) (fun i _ => M.length - (intOf i).toNat)
          case atStart => exact ⟨0, by omega, rfl, Below.refl _ _⟩
          case round =>
            obtain ⟨j, hj, rfl, hB6⟩ := hrel
            by_cases hlt : j < M.length
            · obtain ⟨gm, om, rfl, hgm, hcm⟩ := RM.out (by omega)
              obtain ⟨gs, os, rfl, hgs, hcs⟩ := RS.out (by omega)
              have e := HAT.out j hlt (by omega)
              obtain ⟨x1, x2, x3, x4, x5⟩ := hcm j hlt
              obtain ⟨y1, y2, y3, y4, y5⟩ := hcs j (by omega)
              rw [← e] at y1 y2 y3 y4 y5
              have m1 := (hB6.out.cell (p := ⟨gm, _, none⟩) hgm).trans x1
              have m2 := (hB6.out.cell (p := ⟨gm, _, none⟩) hgm).trans x2
              have m3 := (hB6.out.cell (p := ⟨gm, _, none⟩) hgm).trans x3
              have m4 := (hB6.out.cell (p := ⟨gm, _, none⟩) hgm).trans x4
              have m5 := (hB6.out.cell (p := ⟨gm, _, none⟩) hgm).trans x5
              have s1 := (hB6.out.cell (p := ⟨gs, _, none⟩) hgs).trans y1
              have s2 := (hB6.out.cell (p := ⟨gs, _, none⟩) hgs).trans y2
              have s3 := (hB6.out.cell (p := ⟨gs, _, none⟩) hgs).trans y3
              have s4 := (hB6.out.cell (p := ⟨gs, _, none⟩) hgs).trans y4
              have s5 := (hB6.out.cell (p := ⟨gs, _, none⟩) hgs).trans y5
              clear hcm hcs e x1 x2 x3 x4 x5 y1 y2 y3 y4 y5
              have hjL : j < L.length := by omega
              generalize M[j] = q at *
              obtain ⟨xo, xd, xa, xb, xn⟩ := q
              simp only at m1 m2 m3 m4 m5 s1 s2 s3 s4 s5
              go_wp2_with fail
              go_quiet (fail)
              go_wp2
              go_roundw
              case rel => exact ⟨j + 1, by omega, by go_num, Lib.hid (Below_drewN hB6.out nq)⟩
              case measure => simp [intOf]; omega
            · go_wp2_with (go_at_call 9; refine (known_any _).mono ?_; rintro e w8 ⟨rfl, hb8⟩)
              go_ret
              have hz6 := hB6.out.size
              have hz7 := B3.out.size
              exact ⟨rfl, (B3.out.trans (hB6.out.mono hz7)).trans (hb8.mono (by omega))⟩
        · have q3 : kk % 8 ≠ 0 := by
            intro h; rw [h] at q2; exact hr (List.eq_nil_of_length_eq_zero q2)
          have t1 : (((kk : Int) % 8) != 0) = true := by simp; omega
          have h10 := dcE_short (r := r) (by omega)
          rw [h10]
          clear q1 q2 hM hE hr hb3 OS OS3 HALL HWI hsl HKL hl0 hc0 h10 hd
          go_wp2_with (go_at_call 9; refine (known_any _).mono ?_; rintro e w8 ⟨rfl, hb8⟩)
          go_ret
          exact ⟨rfl, B3.out.trans (hb8.mono (by omega))⟩
end Go.Proofs.Ythobedekeebadaa

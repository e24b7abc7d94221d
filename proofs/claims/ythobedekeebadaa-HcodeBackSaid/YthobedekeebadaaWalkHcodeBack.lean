/-
  innkeeperlaw3.HcodeBack returns true: its walk.
-/
import Derived.Test.YthobedekeebadaaRowI
import Derived.Test.YthobedekeebadaaHc7
import Derived.Test.YthobedekeebadaaHm
import Derived.Test.YthobedekeebadaaHk
import Derived.Deep.QuietTactic
import Derived.BigQuiet
import Derived.Outline
import Derived.IntWalk
namespace Go.Proofs.Ythobedekeebadaa
open Go.RowKit
set_option linter.unusedSimpArgs false
set_option linter.unusedVariables false

theorem rest_len {Z : List Hi} {r mb : List UInt8} (h : mb = encs Z ++ r) (hd : dcE (r.take 8) = 10) (hr : r ≠ []) : mb.length % 8 ≠ 0 := by
  have h1 : mb.length = 8 * Z.length + r.length := by rw [h, List.length_append, encs_len]
  have h2 : r.length ≠ 0 := fun e => hr (List.eq_nil_of_length_eq_zero e)
  rcases dcE_cases (r.take 8) with h3 | ⟨_, h3⟩ | ⟨h3, _⟩
  · omega
  · rw [List.length_take] at h3; omega
  · omega

set_option maxRecDepth 100000 in
set_option maxHeartbeats 4000000 in
theorem hcodeBack_walk (A0 : Option Addr) (len0 cap0 : Nat) (L0 : List Hi) (A1 : Option Addr) (len1 cap1 : Nat) (z1 : List Int) (w : World) (w0 : RowI w A0 len0 cap0 L0) (w1 : IsRow .u8 w A1 len1 cap1 z1) :
    Calls Try.prog 3 #[.slice A0 len0 cap0, .slice A1 len1 cap1] w fun e w' => e = .returned (.bool true) ∧ Below w.heap.size w w' := by
  obtain ⟨rfl, hl0, hc0, hA0, hr0, hin⟩ := w0
  obtain ⟨hl1, hc1, hA1, lb, rfl, hrb⟩ := w1.bytes
  have hcut := cut_any A1 lb.length cap1 80 hl1 hc1 hA1
  have e80 : min lb.length 80 = (lb.take 80).length := by rw [List.length_take]; omega
  rw [e80] at hcut
  have hrm : Rd w w.heap.size A1 (bv (lb.take 80)) := by
    have := hrb.take 80
    simpa [bv, List.map_take] using this
  have hm80 : (lb.take 80).length ≤ 80 := by rw [List.length_take]; omega
  have hmc : (lb.take 80).length ≤ cap1 := by rw [List.length_take]; omega
  have HR0 := Lib.hid hr0
  have HIN := Lib.hid hin
  have HCUT := Lib.hid hcut
  have HRM := Lib.hid hrm
  have HC1 := Lib.hid hc1
  clear hr0 hin hA0 hA1 hrb hrm hcut e80 w1 hc1
  generalize lb.take 80 = mb at *
  unfold maxLen at hc0
  go_enter Try.func3, Try.ntmps3
  go_wp2_with fail
  go_loopw [5, 6] (fun s i wr => ∃ (L : List Hi) (As : Option Addr) (cs : Nat), s = .slice As L.length cs ∧ i = .int .i64 L.length ∧ L.length ≤ L0.length ∧ L.length ≤ 30 ∧ Hid (∀ p ∈ L, p.Ok) ∧ Hid (wr.ownsRow w.heap.size 26 5 (.slice As L.length cs) L.length (ivs L)) ∧ Hid (Below w.heap.size w wr)) (fun _ i _ => 30 - (intOf i).toNat)
  case atStart => exact ⟨[], none, 0, rfl, rfl, by simp, by simp, Lib.hid (by simp), Lib.hid (World.ownsRow_nil _ _ _ _), Below.refl _ _⟩
  case round =>
    obtain ⟨L, As, cs, rfl, rfl, b1, b2, hL, hO, hB⟩ := hrel
    have hz := hB.out.size
    by_cases hgo : L.length < L0.length ∧ L.length < 30
    · obtain ⟨g1, g3⟩ := hgo
      obtain ⟨bl, ol, rfl, hbl, hcl⟩ := HR0.out (by omega)
      obtain ⟨e1, e2, e3, e4, e5⟩ := hcl L.length g1
      have d1 := (hB.out.cell (p := ⟨bl, _, none⟩) hbl).trans e1
      have d2 := (hB.out.cell (p := ⟨bl, _, none⟩) hbl).trans e2
      have d3 := (hB.out.cell (p := ⟨bl, _, none⟩) hbl).trans e3
      have d4 := (hB.out.cell (p := ⟨bl, _, none⟩) hbl).trans e4
      have d5 := (hB.out.cell (p := ⟨bl, _, none⟩) hbl).trans e5
      obtain ⟨f1, f2, f3, f4, f5⟩ := HIN.out _ (List.getElem_mem g1)
      clear hcl e1 e2 e3 e4 e5
      generalize L0[L.length] = q at *
      obtain ⟨o, d, a, b, n⟩ := q
      simp only at d1 d2 d3 d4 d5 f1 f2 f3 f4
      have hmd := made_any o d a b n f1.1 f1.2 f2.1 f2.2 f3.1 f3.2 f4.1 f4.2
      have hok := mdI_ok o d a b n f5.1 f5.2
      generalize mdI o d a b n = m at *
      obtain ⟨mo, md, ma, mb, mn⟩ := m
      simp only [Hi.v] at hmd
      have HMD := Lib.hid hmd
      have HOK := Lib.hid hok
      have HX := Lib.hid (own_lt hO.out)
      clear hmd hok f1 f2 f3 f4 f5
      go_wp2_with (first
        | (go_at_call 5; refine (HMD.out _).mono ?_; rintro e w3 ⟨rfl, hb8⟩; have hz3 := hb8.size; have B3 := Lib.hid (hB.out.trans (hb8.mono hz)); have O3 := Lib.hid ((own_below hO.out hb8).alloc (.cells #[.int .i64 mo, .int .i64 md, .int .i64 ma, .int .i64 mb, .int .u32 mn] 26)); clear hb8)
        | (at_builtin; refine wpList_app rfl (.tmp 28) (.tmp 34) _ rfl w.heap.size 26 _ 5 40 Try.underlying22 Try.info_hi rfl (by omega) (.slice As L.length cs) L.length (ivs L) rfl O3.out w3.heap.size 1 1 _ _ _ rfl (heap_alloc_new _ _) rfl (by simp [Value.oneCell']) (by omega) (by unfold maxLen; omega) (by omega) (by simp; omega) ?_; intro g4 c4 w4 hx4; have O4 := Lib.hid hx4.own; have B4 := Lib.hid ((B3.out.alloc (by omega) _).trans (hx4.below (by simp; omega) O3.out)); clear hx4))
      go_roundw
      case rel =>
        refine ⟨L ++ [⟨mo, md, ma, mb, mn⟩], some ⟨g4, 0, none⟩, c4, by simp, by simp, by simp; omega, by simp; omega, ?_, ?_, B4⟩
        · apply Lib.hid; intro p hp
          rcases List.mem_append.1 hp with hp | hp
          · exact hL.out p hp
          · obtain rfl := List.mem_singleton.1 hp; exact HOK.out
        · apply Lib.hid
          have h := O4.out
          rw [ivs_append, List.length_append, List.length_singleton]
          simpa [ivs, Hi.cs] using h
      case measure => simp [intOf]; omega
    · have hend : (L0.length ≤ L.length) ∨ (L.length < L0.length ∧ 30 ≤ L.length) := by omega
      clear hgo
      have hj := join_any As cs L (by omega) (fun p hp => (hL.out p hp).2) wr (RdI.of_rd (Rd.of_row hO.out))
      have HJ := Lib.hid hj
      clear hj
      rcases hend with g1 | ⟨g1, g2⟩
      all_goals
        go_wp2_with fail
        refine HJ.out.mono ?_
        rintro e w2 ⟨hb2, hj2, _⟩
        obtain ⟨Ab, cb, rfl, hob⟩ := hj2 fun p hp => (hL.out p hp).1
        clear hj2
        have hz2 := hb2.size
        have B2 := Lib.hid (hB.out.trans (hb2.mono hz))
        have OS := Lib.hid (own_below hO.out hb2)
        have hcap := own_cap hob
        have hall := all_any Ab cb (encs L) (by rw [encs_len]; omega) hcap.2 (by rw [encs_len]; omega) w2 (Rd.of_own hob)
        rw [encs_len] at hall
        have HALL := Lib.hid hall
        clear hcap hall hb2 hob
        go_wp2_with fail
        refine HALL.out.mono ?_
        rintro e w3 ⟨hb3, M, r, hM, hE, hcase⟩
        have hz3 := hb3.size
        have B3 := Lib.hid (B2.out.trans (hb3.mono (by omega)))
        have OS3 := Lib.hid (own_below OS.out hb3)
        obtain ⟨q1, q2⟩ := all_one L M [] r hL.out hM (by rw [List.append_nil]; exact hE) dcE_nil (by
          rcases hcase with ⟨h, _⟩ | ⟨_, h, _⟩
          · rw [h]; exact dcE_nil
          · exact h)
        subst q1
        rcases hcase with ⟨hr, A5, c5, rfl, hO5⟩ | ⟨hr, hd, rfl⟩
        · have RM := Lib.hid (RdI.of_rd (Rd.of_row (own_mono hO5 (B' := w.heap.size) (by omega))))
          have RS := Lib.hid (RdI.of_rd (Rd.of_row OS3.out))
          clear q2 hM hE hO5 hr hb3 OS HALL hl0 hc0 HJ
          go_wp2_with fail
          obtain ⟨wo, rfl⟩ : ∃ wo : World, wo = w3 := ⟨_, rfl⟩
          go_loopw [11] (fun i wr => ∃ j : Nat, j ≤ L.length ∧ i = .int .i64 j ∧ Hid (Below wo.heap.size wo wr)) (fun i _ => L.length - (intOf i).toNat)
          case atStart => exact ⟨0, by omega, rfl, Below.refl _ _⟩
          case round =>
            obtain ⟨j, hj, rfl, hB6⟩ := hrel
            by_cases hlt : j < L.length
            · obtain ⟨gm, om, rfl, hgm, hcm⟩ := RM.out (by omega)
              obtain ⟨gs, os, rfl, hgs, hcs⟩ := RS.out (by omega)
              obtain ⟨x1, x2, x3, x4, x5⟩ := hcm j hlt
              obtain ⟨y1, y2, y3, y4, y5⟩ := hcs j hlt
              have m1 := (hB6.out.cell (p := ⟨gm, _, none⟩) hgm).trans x1
              have m2 := (hB6.out.cell (p := ⟨gm, _, none⟩) hgm).trans x2
              have m3 := (hB6.out.cell (p := ⟨gm, _, none⟩) hgm).trans x3
              have m4 := (hB6.out.cell (p := ⟨gm, _, none⟩) hgm).trans x4
              have m5 := (hB6.out.cell (p := ⟨gm, _, none⟩) hgm).trans x5
              have s1 := (hB6.out.cell (p := ⟨gs, _, none⟩) hgs).trans y1
              have s2 := (hB6.out.cell (p := ⟨gs, _, none⟩) hgs).trans y2
              have s3 := (hB6.out.cell (p := ⟨gs, _, none⟩) hgs).trans y3
              have s4 := (hB6.out.cell (p := ⟨gs, _, none⟩) hgs).trans y4
              have s5 := (hB6.out.cell (p := ⟨gs, _, none⟩) hgs).trans y5
              clear hcm hcs x1 x2 x3 x4 x5 y1 y2 y3 y4 y5
              generalize L[j] = q at *
              obtain ⟨xo, xd, xa, xb, xn⟩ := q
              simp only at m1 m2 m3 m4 m5 s1 s2 s3 s4 s5
              go_wp2_with fail
              go_quiet (fail)
              go_wp2
              go_roundw
              case rel => exact ⟨j + 1, by omega, by go_num, Lib.hid (Below_drewN hB6.out nq)⟩
              case measure => simp [intOf]; omega
            · have hz6 := hB6.out.size
              have hz7 := B3.out.size
              have B6 := Lib.hid (B3.out.trans (hB6.out.mono hz7))
              have OS6 := Lib.hid (own_below OS3.out hB6.out)
              have hall2 := all_any A1 cap1 mb hmc HC1.out (by omega) wr ((HRM.out.below B6.out).more (by omega))
              have HALL2 := Lib.hid hall2
              have hwr : w.heap.size ≤ wr.heap.size := by omega
              clear hall2 RM RS hB6 B3 OS3 hz6 hz7 hz2 hz3 B2
              go_wp2_with (go_at_call 8; refine (HCUT.out _).mono ?_; rintro e w' ⟨rfl, rfl⟩)
              refine HALL2.out.mono ?_
              rintro e w4 ⟨hb4, Z, r4, hZ, hE4, hcase4⟩
              have hz4 := hb4.size
              have B7 := Lib.hid (B6.out.trans (hb4.mono hwr))
              have OS7 := Lib.hid (own_below OS6.out hb4)
              rcases hcase4 with ⟨hr4, A6, c6, rfl, hO6⟩ | ⟨hr4, hd4, rfl⟩
              · subst hr4
                rw [List.append_nil] at hE4
                have eZ : 8 * Z.length = mb.length := by rw [hE4, encs_len]
                have hj4 := join_any A6 c6 Z (by omega) (fun p hp => (hZ p hp).2) w4 (RdI.of_rd (Rd.of_row hO6))
                have HJ4 := Lib.hid hj4
                have HZ := Lib.hid hZ
                have HE4 := Lib.hid hE4
                clear hj4 hb4 hE4 hZ hO6 HALL2 B6 OS6
                go_wp2_with fail
                refine HJ4.out.mono ?_
                rintro e w5 ⟨hb5, hj5, _⟩
                obtain ⟨Aw, cw, rfl, how⟩ := hj5 (fun p hp => (HZ.out p hp).1)
                have hz5 := hb5.size
                have B8 := Lib.hid (B7.out.trans (hb5.mono (by omega)))
                have OS8 := Lib.hid ((own_below OS7.out hb5).alloc (.cells #[.int .i64 0, .int .i64 0, .int .i64 0, .int .i64 0, .int .u32 1] 26))
                have OW8 := Lib.hid (how.alloc (.cells #[.int .i64 0, .int .i64 0, .int .i64 0, .int .i64 0, .int .u32 1] 26))
                clear hj5 how hb5 HJ4 OS7
                go_wp2_with (at_builtin; refine wpList_app rfl (.tmp 117) (.tmp 119) _ rfl w.heap.size 26 _ 5 40 Try.underlying22 Try.info_hi rfl (by omega) (.slice As L.length cs) L.length (ivs L) rfl OS8.out w5.heap.size 1 1 _ _ _ rfl (heap_alloc_new _ _) rfl (by simp [Value.oneCell']) (by omega) (by unfold maxLen; omega) (by omega) (by simp; omega) ?_; intro g9 c9 w9 hx9; have O9 := Lib.hid hx9.own; have B9 := Lib.hid ((B8.out.alloc (by omega) _).trans (hx9.below (by simp; omega) OS8.out)); have OW9 := Lib.hid (own_other OW8.out OS8.out (by decide) hx9); clear hx9)
                have o9 : w9.ownsRow w.heap.size 26 5 (.slice (some ⟨g9, 0, none⟩) (L ++ [(⟨0, 0, 0, 0, 1⟩ : Hi)]).length c9) (L ++ [(⟨0, 0, 0, 0, 1⟩ : Hi)]).length (ivs (L ++ [(⟨0, 0, 0, 0, 1⟩ : Hi)])) := by
                  have h := O9.out
                  rw [ivs_append, List.length_append, List.length_singleton]
                  simpa [ivs, Hi.cs] using h
                have hj9 := join_any (some ⟨g9, 0, none⟩) c9 (L ++ [(⟨0, 0, 0, 0, 1⟩ : Hi)]) (by simp; omega) (fun p hp => by
                  rcases List.mem_append.1 hp with hp | hp
                  · exact (hL.out p hp).2
                  · obtain rfl := List.mem_singleton.1 hp; exact ⟨by decide, by decide⟩) w9 (RdI.of_rd (Rd.of_row o9))
                rw [List.length_append, List.length_singleton] at hj9
                refine hj9.mono ?_
                rintro e w10 ⟨hb10, _, hbad⟩
                obtain rfl := hbad ⟨0, 0, 0, 0, 1⟩ (by simp) (by decide)
                have B10 := Lib.hid (B9.out.trans (hb10.mono B9.out.size))
                have hz10 := B10.out.size
                have ow := own_below OW9.out hb10
                rw [eZ, ← HE4.out] at ow
                have hcv1 := conv_rd w10 _ Aw cw mb (Rd.of_own ow)
                have hcv2 := conv_rd w10 _ A1 cap1 mb (HRM.out.below B10.out)
                clear hj9 o9 O9 hbad hb10 OW9 OW8 OS8 B9 B8 B7 ow HZ HE4 hmc
                go_wp2_with (go_at_call 9; refine (known_any _).mono ?_; rintro e w11 ⟨rfl, hb11⟩)
                go_ret
                exact ⟨rfl, B10.out.trans (hb11.mono (by omega))⟩
              · have hj4 := join_any none 0 [] (by simp) (by simp) w4 (fun h => by simp at h)
                have HJ4 := Lib.hid hj4
                have hlen := fun h => rest_len hE4 h hr4
                have hk4 := dcE_cases (r4.take 8)
                have hne4 : ((dcE (r4.take 8)) != 0) = true := by simpa using hd4
                generalize dcE (r4.take 8) = E at *
                clear hj4 hb4 hE4 hr4 HALL2 B6 OS6 OS7
                go_wp2_with fail
                refine HJ4.out.mono ?_
                rintro e w5 ⟨hb5, hj5, _⟩
                obtain ⟨Aw, cw, rfl, how⟩ := hj5 (by simp)
                have hz5 := hb5.size
                have B8 := Lib.hid (B7.out.trans (hb5.mono (by omega)))
                clear hj5 how hb5 HJ4
                rcases hk4 with h | ⟨rfl, h⟩ | ⟨rfl, h⟩
                · exact absurd h hd4
                · have t8 : (((mb.length : Int) % 8) != 0) = true := by have := hlen rfl; simp; omega
                  go_wp2_with (go_at_call 9; refine (known_any _).mono ?_; rintro e w8 ⟨rfl, hb8⟩)
                  go_ret
                  exact ⟨rfl, B8.out.trans (hb8.mono (by omega))⟩
                · go_wp2_with (go_at_call 9; refine (known_any _).mono ?_; rintro e w8 ⟨rfl, hb8⟩)
                  go_ret
                  exact ⟨rfl, B8.out.trans (hb8.mono (by omega))⟩
        · exact absurd q2.symm hr
end Go.Proofs.Ythobedekeebadaa

/-
  innkeeperref3.All: A CONTRACT.
-/
import Derived.Test.YtaghblcboimbpaaHc7
import Derived.Test.YtaghblcboimbpaaHr2
namespace Go.Proofs.Ytaghblcboimbpaa
open Go.RowKit
set_option linter.unusedSimpArgs false
set_option linter.unusedVariables false

/-- what the document's All answers of bytes -/
def Ralled (l : List UInt8) (w : World) (e : Ending) (w' : World) : Prop :=
  Below w.heap.size w w' ∧ ∃ (L : List Hi) (rest : List UInt8), (∀ p ∈ L, p.Ok) ∧ l = encs L ++ rest ∧
    ((rest = [] ∧ ∃ A c, e = .returned (.tuple #[.slice A L.length c, .bool true]) ∧ w'.ownsRow w.heap.size 35 5 (.slice A L.length c) L.length (ivs L))
      ∨ (rest ≠ [] ∧ dcE (rest.take 8) ≠ 0 ∧ ∃ v, e = .returned (.tuple #[v, .bool false])))

set_option maxRecDepth 100000 in
set_option maxHeartbeats 2000000 in
theorem rall_any (A : Option Addr) (c : Nat) (l : List UInt8) (hl : l.length ≤ c) (hc : c ≤ maxLen) (h42 : l.length ≤ 4398046511104) (w : World) (hr : Rd w w.heap.size A (bv l)) :
    Calls Try.prog 24 #[.slice A l.length c] w (Ralled l w) := by
  unfold maxLen at hc
  have HR := Lib.hid hr
  clear hr
  go_enter Try.func24, Try.ntmps24
  go_wp2_with fail
  go_loopw [0, 4] (fun s v wr => ∃ (L : List Hi) (r : List UInt8) (Ax A' : Option Addr) (cx c' : Nat), s = .slice Ax r.length cx ∧ v = .slice A' L.length c' ∧ r.length ≤ cx ∧ cx ≤ 9223372036854775807 ∧ l.length = 8 * L.length + r.length ∧ Hid (∀ p ∈ L, p.Ok) ∧ Hid (l = encs L ++ r) ∧ Hid (Rd w w.heap.size Ax (bv r)) ∧ Hid (wr.ownsRow w.heap.size 35 5 (.slice A' L.length c') L.length (ivs L)) ∧ Hid (Below w.heap.size w wr)) (fun s _ _ => match s with | .slice _ n _ => n | _ => 0)
  case atStart => exact ⟨[], l, A, none, c, 0, rfl, rfl, hl, by omega, by simp, by intro p hp; simp at hp, by simp [encs, Hid], HR, World.ownsRow_nil _ _ _ _, Below.refl _ _⟩
  case round =>
    obtain ⟨L, r, Ax, A', cx, c', rfl, rfl, hrc, hcx, hlen, hL, hE, hR, hO, hB⟩ := hrel
    have hz := hB.out.size
    by_cases hend : 8 ≤ r.length
    · obtain ⟨g, off, rfl, hg, hcell⟩ := hR.out (by rw [bv_length]; omega)
      clear hcell
      have hd := rdecode_any (some ⟨g, off, none⟩) cx (r.take 8) wr (by
        have h1 := ((hR.out.below hB.out).more hz).take 8
        have e : (bv r).take 8 = bv (r.take 8) := by simp [bv, List.map_take]
        rw [← e]; exact h1)
      rw [List.length_take] at hd
      by_cases h0 : dcE (r.take 8) = 0
      · obtain ⟨q1, q2, q3⟩ := dc_ec _ h0
        have hr8 : 8 ≤ r.length := by rw [List.length_take] at q1; omega
        have hmin : min 8 r.length = 8 := by omega
        have hmin2 : min (8 : Int) (r.length : Int) = 8 := by omega
        rw [h0, hmin] at hd
        simp only [beq_self_eq_true] at hd
        have hr2 : r = (dcI (r.take 8)).enc ++ r.drop 8 := by rw [q3, List.take_append_drop]
        have hdl : (r.drop 8).length = r.length - 8 := List.length_drop
        have hE2 := Lib.hid (show l = encs (L ++ [dcI (r.take 8)]) ++ r.drop 8 by rw [encs_append, encs_cons, encs_nil, List.append_nil, List.append_assoc, ← hr2]; exact hE.out)
        have hL2 := Lib.hid (show ∀ p ∈ L ++ [dcI (r.take 8)], p.Ok by
          intro p hp
          rcases List.mem_append.1 hp with hp | hp
          · exact hL.out p hp
          · obtain rfl := List.mem_singleton.1 hp; exact q2)
        have hRd := Lib.hid (show Rd w w.heap.size (some ⟨g, off + 8, none⟩) (bv (r.drop 8)) by
          have h1 := hR.out.drop 8
          have e : (bv r).drop 8 = bv (r.drop 8) := by simp [bv, List.map_drop]
          rw [← e]; exact h1)
        have hLN := Lib.hid (show l.length = 8 * (L ++ [dcI (r.take 8)]).length + (r.drop 8).length by rw [hdl, List.length_append, List.length_singleton]; omega)
        clear hr2 q1 q2 q3 h0 hmin
        generalize hq : dcI (r.take 8) = q at *
        obtain ⟨o, d, a, b, n⟩ := q
        simp only [Hi.v] at hd
        have HD := Lib.hid hd
        have HDL := Lib.hid hdl
        clear hd hq hdl
        by_cases hc8 : cx = 8
        · have hrl8 : r.length = 8 := by omega
          have hnil : Rd w w.heap.size (some ⟨g, off, none⟩) (bv (r.drop 8)) := by
            have : r.drop 8 = [] := List.eq_nil_of_length_eq_zero (by rw [List.length_drop]; omega)
            rw [this]; exact Rd.nil_
          have HNIL := Lib.hid hnil
          subst hc8
          clear hnil
          go_wp2_with (first
            | (go_at_call 36; refine HD.out.mono ?_; rintro e w1 ⟨rfl, hb1⟩
               have HB1 := Lib.hid hb1
               have own1 := own_below hO.out hb1
               have HO1 := Lib.hid ((own1.alloc (.cells #[.int .i64 o, .int .i64 d, .int .i64 a, .int .i64 b, .int .u32 n] 35)).alloc (.cells #[.int .i64 o, .int .i64 d, .int .i64 a, .int .i64 b, .int .u32 n] 35))
               have hz1 := hb1.size
               clear hb1 own1)
            | (at_builtin
               refine wpList_app rfl (.tmp 18) (.tmp 20) _ rfl w.heap.size 35 _ 5 40 Try.underlying36 Try.info_hi rfl (by omega) (.slice A' L.length c') L.length (ivs L) rfl HO1.out (w1.heap.size + 1) 1 1 _ _ _ rfl (by simpa using heap_alloc_new (w1.alloc (.cells #[.int .i64 o, .int .i64 d, .int .i64 a, .int .i64 b, .int .u32 n] 35)) (.cells #[.int .i64 o, .int .i64 d, .int .i64 a, .int .i64 b, .int .u32 n] 35)) rfl (by simp [Value.oneCell']) (by omega) (by unfold maxLen; omega) (by omega) (by simp; omega) ?_
               intro g2 cap2 w2 hext2
               have HX2 := Lib.hid hext2
               have HB2 := Lib.hid ((hB.out.trans ((HB1.out.mono hz).alloc (by omega) (.cells #[.int .i64 o, .int .i64 d, .int .i64 a, .int .i64 b, .int .u32 n] 35))).alloc (by simp; omega) (.cells #[.int .i64 o, .int .i64 d, .int .i64 a, .int .i64 b, .int .u32 n] 35))
               clear hext2))
          go_roundw
          case rel =>
            refine ⟨L ++ [⟨o, d, a, b, n⟩], r.drop 8, some ⟨g, off, none⟩, some ⟨g2, 0, none⟩, 0, cap2, by rw [HDL.out]; simp [hrl8], by simp, by rw [HDL.out]; omega, by omega, hLN.out, hL2, hE2, HNIL, ?_, ?_⟩
            · apply Lib.hid
              have h := HX2.out.own
              rw [ivs_append, List.length_append, List.length_singleton]
              simpa [ivs, Hi.cs] using h
            · exact Lib.hid (HB2.out.trans (HX2.out.below (by simp; omega) HO1.out))
          case measure => simp; omega
        · go_wp2_with (first
            | (go_at_call 36; refine HD.out.mono ?_; rintro e w1 ⟨rfl, hb1⟩
               have HB1 := Lib.hid hb1
               have own1 := own_below hO.out hb1
               have HO1 := Lib.hid ((own1.alloc (.cells #[.int .i64 o, .int .i64 d, .int .i64 a, .int .i64 b, .int .u32 n] 35)).alloc (.cells #[.int .i64 o, .int .i64 d, .int .i64 a, .int .i64 b, .int .u32 n] 35))
               have hz1 := hb1.size
               clear hb1 own1)
            | (at_builtin
               refine wpList_app rfl (.tmp 18) (.tmp 20) _ rfl w.heap.size 35 _ 5 40 Try.underlying36 Try.info_hi rfl (by omega) (.slice A' L.length c') L.length (ivs L) rfl HO1.out (w1.heap.size + 1) 1 1 _ _ _ rfl (by simpa using heap_alloc_new (w1.alloc (.cells #[.int .i64 o, .int .i64 d, .int .i64 a, .int .i64 b, .int .u32 n] 35)) (.cells #[.int .i64 o, .int .i64 d, .int .i64 a, .int .i64 b, .int .u32 n] 35)) rfl (by simp [Value.oneCell']) (by omega) (by unfold maxLen; omega) (by omega) (by simp; omega) ?_
               intro g2 cap2 w2 hext2
               have HX2 := Lib.hid hext2
               have HB2 := Lib.hid ((hB.out.trans ((HB1.out.mono hz).alloc (by omega) (.cells #[.int .i64 o, .int .i64 d, .int .i64 a, .int .i64 b, .int .u32 n] 35))).alloc (by simp; omega) (.cells #[.int .i64 o, .int .i64 d, .int .i64 a, .int .i64 b, .int .u32 n] 35))
               clear hext2))
          go_roundw
          case rel =>
            refine ⟨L ++ [⟨o, d, a, b, n⟩], r.drop 8, some ⟨g, off + 8, none⟩, some ⟨g2, 0, none⟩, cx - 8, cap2, by rw [HDL.out], by simp, by rw [HDL.out]; omega, by omega, hLN.out, hL2, hE2, hRd, ?_, ?_⟩
            · apply Lib.hid
              have h := HX2.out.own
              rw [ivs_append, List.length_append, List.length_singleton]
              simpa [ivs, Hi.cs] using h
            · exact Lib.hid (HB2.out.trans (HX2.out.below (by simp; omega) HO1.out))
          case measure => simp; omega
      · have hne : (dcE (r.take 8) == 0) = false := by simpa using h0
        have HNE := Lib.hid h0
        clear h0
        rw [hne] at hd
        clear hne
        generalize hQ : (dcI (r.take 8)) = q at *
        obtain ⟨o, d, a, b, n⟩ := q
        simp only [Hi.v] at hd
        clear hQ
        have hmin : min 8 r.length = 8 := by omega
        rw [hmin] at hd
        have HD := Lib.hid hd
        clear hd hmin
        go_wp2_with (go_at_call 36; refine HD.out.mono ?_; rintro e w1 ⟨rfl, hb1⟩; have HB1 := Lib.hid hb1; have hz1 := hb1.size; clear hb1)
        go_ret2
        exact ⟨(hB.out.trans (HB1.out.mono hz)).alloc (by omega) _, L, r, hL.out, hE.out, .inr ⟨List.ne_nil_of_length_pos (by omega), HNE.out, _, rfl⟩⟩
    · by_cases hr0 : r.length = 0
      · have hr1 : r = [] := List.eq_nil_of_length_eq_zero hr0
        subst hr1
        go_wp2_with fail
        go_ret2
        exact ⟨hB.out, L, [], hL.out, hE.out, .inl ⟨rfl, A', c', by simp, hO.out⟩⟩
      · have hlt : ((r.length : Int) == 0) = false := by rw [beq_eq_false_iff_ne]; omega
        have HR0 := Lib.hid hr0
        clear hr0
        go_wp2_with fail
        go_ret2
        have hs : dcE (r.take 8) ≠ 0 := by rw [dcE_short (by omega)]; decide
        exact ⟨hB.out, L, r, hL.out, hE.out, .inr ⟨fun h => HR0.out (by rw [h]; rfl), hs, .slice A' L.length c', by simp [hlt]⟩⟩
end Go.Proofs.Ytaghblcboimbpaa

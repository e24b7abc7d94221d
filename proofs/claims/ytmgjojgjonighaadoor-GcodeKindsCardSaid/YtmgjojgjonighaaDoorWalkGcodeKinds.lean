/-
  innkeeperlaw2.GcodeKinds returns true: its walk.
-/
import Derived.Test.YtmgjojgjonighaaDoorGc10
import Derived.Test.YtmgjojgjonighaaDoorGk2
import Derived.Test.YtmgjojgjonighaaDoorRow
import Derived.Deep.RegionHeld3
import Derived.Outline
namespace Go.Proofs.YtmgjojgjonighaaDoor
open Go.RowKit
set_option linter.unusedSimpArgs false
set_option linter.unusedVariables false

set_option maxRecDepth 100000 in
set_option maxHeartbeats 2000000 in
theorem gcodeKinds_walk (a0 : Int) (a1 : Int) (a2 : Int) (a3 : Int) (w : World) (w0 : (Lit.int .i64 a0).wf = true) (w1 : (Lit.int .i64 a1).wf = true) (w2 : (Lit.int .u32 a2).wf = true) (w3 : (Lit.int .u32 a3).wf = true) (ht : Tab w.heap.size w) :
    Calls Tryd.prog 7 #[.int .i64 a0, .int .i64 a1, .int .u32 a2, .int .u32 a3] w fun e w' => e = .returned (.bool true) ∧ Below w.heap.size w w' := by
  obtain ⟨b0, b1⟩ := u32_of_wf w2
  obtain ⟨d0, d1⟩ := u32_of_wf w3
  have hx := instr_any a0 a2 w0 b0 b1
  have hy := instr_any a1 a3 w1 d0 d1
  have ox := inN_ok (opV a0) a2 (opV_sz a0) b0 b1
  have oy := inN_ok (opV a1) a3 (opV_sz a1) d0 d1
  generalize inN (opV a0) a2 = xn at *
  generalize inN (opV a1) a3 = yn at *
  generalize opV a0 = xo at *
  generalize opV a1 = yo at *
  have HX := Lib.hid hx
  have HY := Lib.hid hy
  have OX := Lib.hid ox
  have OY := Lib.hid oy
  have HT := Lib.hid ht
  clear hx hy ox oy ht w0 w1 w2 w3 b0 b1 d0 d1
  go_enter Tryd.func7, Tryd.ntmps7
  go_wp2_with fail
  refine (HX.out _).mono ?_
  rintro e W1 ⟨rfl, hb1⟩
  go_wp2_with fail
  refine (HY.out _).mono ?_
  rintro e W2 ⟨rfl, hb2⟩
  have hb3 := hb1.trans (hb2.mono hb1.size)
  have hz3 := hb3.size
  clear hb1 hb2
  go_wp2_with fail
  have kx : Blk (((W2.alloc (.cells #[.int .i64 xo, .int .u32 xn] 26)).alloc (.cells #[.int .i64 yo, .int .u32 yn] 26)).alloc (.cells #[.int .i64 xo, .int .u32 xn, .int .i64 yo, .int .u32 yn] 26)) W2.heap.size 26 #[.int .i64 xo, .int .u32 xn] := ((Blk.new W2 _ _).alloc _).alloc _
  have ky : Blk (((W2.alloc (.cells #[.int .i64 xo, .int .u32 xn] 26)).alloc (.cells #[.int .i64 yo, .int .u32 yn] 26)).alloc (.cells #[.int .i64 xo, .int .u32 xn, .int .i64 yo, .int .u32 yn] 26)) (W2.heap.size + 1) 26 #[.int .i64 yo, .int .u32 yn] := by
    have := (Blk.new (W2.alloc (.cells #[.int .i64 xo, .int .u32 xn] 26)) 26 #[.int .i64 yo, .int .u32 yn]).alloc (.cells #[.int .i64 xo, .int .u32 xn, .int .i64 yo, .int .u32 yn] 26)
    simpa using this
  have kl : Blk (((W2.alloc (.cells #[.int .i64 xo, .int .u32 xn] 26)).alloc (.cells #[.int .i64 yo, .int .u32 yn] 26)).alloc (.cells #[.int .i64 xo, .int .u32 xn, .int .i64 yo, .int .u32 yn] 26)) (W2.heap.size + 1 + 1) 26 #[.int .i64 xo, .int .u32 xn, .int .i64 yo, .int .u32 yn] := by
    have := Blk.new ((W2.alloc (.cells #[.int .i64 xo, .int .u32 xn] 26)).alloc (.cells #[.int .i64 yo, .int .u32 yn] 26)) 26 #[.int .i64 xo, .int .u32 xn, .int .i64 yo, .int .u32 yn]
    simpa using this
  have kb : Below w.heap.size w (((W2.alloc (.cells #[.int .i64 xo, .int .u32 xn] 26)).alloc (.cells #[.int .i64 yo, .int .u32 yn] 26)).alloc (.cells #[.int .i64 xo, .int .u32 xn, .int .i64 yo, .int .u32 yn] 26)) := ((hb3.alloc hz3 _).alloc (by simp; omega) _).alloc (by simp; omega) _
  generalize ((W2.alloc (.cells #[.int .i64 xo, .int .u32 xn] 26)).alloc (.cells #[.int .i64 yo, .int .u32 yn] 26)).alloc (.cells #[.int .i64 xo, .int .u32 xn, .int .i64 yo, .int .u32 yn] 26) = W3 at *
  have hB : w.heap.size ≤ W2.heap.size := hz3
  generalize W2.heap.size = B at *
  have KX := Lib.hid kx
  have KY := Lib.hid ky
  have KL := Lib.hid kl
  have KB := Lib.hid kb
  clear kx ky kl kb hb3 hz3
  go_loopw [24] (fun i wr => ∃ k : Nat, k ≤ 2 ∧ i = .int .i64 k ∧ Hid (Below W3.heap.size W3 wr)) (fun i _ => 2 - (intOf i).toNat)
  case atStart => exact ⟨0, by omega, rfl, Below.refl _ _⟩
  case round =>
    obtain ⟨k, hk, rfl, hR⟩ := hrel
    have NX := Lib.hid (KX.out.below hR.out KX.out.lt)
    have NY := Lib.hid (KY.out.below hR.out KY.out.lt)
    have NL := Lib.hid (KL.out.below hR.out KL.out.lt)
    by_cases hlt : k < 2
    · obtain ⟨op, nn, OK, d0, d1⟩ : ∃ op nn, Hid (Ok2 (op, nn)) ∧ wr.cell? ⟨B + 1 + 1, k * 2, none⟩ = some (.int .i64 op) ∧ wr.cell? ⟨B + 1 + 1, k * 2 + 1, none⟩ = some (.int .u32 nn) := by
        have hk2 : k = 0 ∨ k = 1 := by omega
        rcases hk2 with rfl | rfl
        · exact ⟨xo, xn, OX, NL.out.cell 0, NL.out.cell 1⟩
        · exact ⟨yo, yn, OY, NL.out.cell 2, NL.out.cell 3⟩
      have hk1 := (kinds_ok op).1
      have hk2 := (kinds_ok op).2
      obtain ⟨ok, m0, m1⟩ := OK.out
      have hrt := right_any op nn m0
      simp only at ok m0 m1
      rw [ok] at hrt
      have htx := fun (W : World) (hW : Lib.TabBelow Tryd.prog W.heap.size W "internal/strconv.uint64pow10" .u64 Lib.pow10Tab) => text_any op nn m0 m1 W hW
      have hno : ((⟨(txV op nn).toArray⟩ : ByteArray).toList == [63]) = false := by
        have := tx_not (p := (op, nn)) OK.out
        simp only at this
        rw [beq_eq_false_iff_ne]
        intro h
        apply this
        simpa using h
      generalize (⟨(txV op nn).toArray⟩ : ByteArray) = TX at *
      have hs := size_any op
      have hsu := super_any op
      have hen := ends_any op
      have hpl := plain_any op
      have hsz := szV_cases op
      have hnz := ok_sz ok
      have HB := Lib.hid (box2_new wr (.int .i64 op) (.int .u32 nn) 26)
      have hzr := hR.out.size
      have HRT := Lib.hid hrt
      have HTX := Lib.hid htx
      clear hrt htx ok
      generalize szV op = sz at *
      rcases hsz with rfl | rfl | rfl | rfl
      · exact absurd rfl hnz
      all_goals
        cases hsuv : suV op
        all_goals
          rw [hsuv] at hsu
          cases hplv : plV op
        all_goals
          rw [hplv] at hpl
          first
          | (exfalso; rw [hsuv, hplv] at hk2; simp at hk2; done)
          | skip
        all_goals
          have henv : enV op = true ∨ suV op = false := by rw [hsuv]; first | (right; rfl) | (left; exact hk1 hsuv)
          have HEN : Hid (∀ w, suV op = true → Calls Tryd.prog 21 #[.int .i64 op] w fun e w' => e = .returned (.bool true) ∧ w = w') := fun w h => by
            have := hen w; rw [hk1 h] at this; exact this
          have HS := Lib.hid hs
          have HSU := Lib.hid hsu
          have HPL := Lib.hid hpl
          have HSV := Lib.hid hsuv
          clear hs hsu hen hpl hk1 hk2 hsuv hplv henv hnz
          go_wp2_with (first
            | (go_at_call 15; refine (HS.out _).mono ?_; rintro e w' ⟨rfl, rfl⟩)
            | (go_at_call 20; refine (HSU.out _).mono ?_; rintro e w' ⟨rfl, rfl⟩)
            | (go_at_call 22; refine (HPL.out _).mono ?_; rintro e w' ⟨rfl, rfl⟩)
            | (go_at_call 21; refine (HEN.out _ HSV.out).mono ?_; rintro e w' ⟨rfl, rfl⟩)
            | (go_at_call 23; refine (HRT.out _).mono ?_; rintro e w1 ⟨rfl, hb⟩; obtain ⟨c0, c1, cs, cb⟩ := box2_keep HB.out hb; clear hb)
            | (go_at_call 24; refine (HTX.out _ ((HT.out.on (KB.out.trans ((hR.out.trans (cb.mono hzr)).mono KB.out.size))).up (by have := KB.out.size; have := cb.size; omega))).mono ?_; rintro e w2 ⟨rfl, hb2⟩))
          go_roundw
          case rel => exact ⟨k + 1, by omega, by go_num, Lib.hid ((hR.out.trans (cb.mono hzr)).trans (hb2.mono (by have := cb.size; omega)))⟩
          case measure => simp [intOf]; omega
    · have hTX := fun (W : World) (hW : Lib.TabBelow Tryd.prog W.heap.size W "internal/strconv.uint64pow10" .u64 Lib.pow10Tab) => text_any xo xn OX.out.2.1 OX.out.2.2 W hW
      have hTY := fun (W : World) (hW : Lib.TabBelow Tryd.prog W.heap.size W "internal/strconv.uint64pow10" .u64 Lib.pow10Tab) => text_any yo yn OY.out.2.1 OY.out.2.2 W hW
      have hq : ((⟨(txV xo xn).toArray⟩ : ByteArray).toList == (⟨(txV yo yn).toArray⟩ : ByteArray).toList) = ((xo == yo) && (xn == yn)) := by
        by_cases h : (xo, xn) = (yo, yn)
        · simp only [Prod.mk.injEq] at h
          simp [h.1, h.2]
        · have h2 : txV xo xn ≠ txV yo yn := fun e => h (tx_inj OX.out OY.out e)
          have h3 : ((xo == yo) && (xn == yn)) = false := by
            simp only [Prod.mk.injEq] at h
            simp; omega
          rw [h3, beq_eq_false_iff_ne]
          intro e
          apply h2
          simpa using e
      generalize (⟨(txV xo xn).toArray⟩ : ByteArray) = TX at *
      generalize (⟨(txV yo yn).toArray⟩ : ByteArray) = TY at *
      have c0 := NX.out.cell 0
      have c1 := NX.out.cell 1
      have d0 := NY.out.cell 0
      have d1 := NY.out.cell 1
      simp at c0 c1 d0 d1
      have hzx := NY.out.lt
      have hzr : B + 1 < wr.heap.size := hzx
      have hTab : ∀ w' : World, (w'.cell? ⟨B, 0, none⟩ = some (.int .i64 xo) ∧ w'.cell? ⟨B, 1, none⟩ = some (.int .u32 xn) ∧ w'.cell? ⟨B + 1, 0, none⟩ = some (.int .i64 yo) ∧ w'.cell? ⟨B + 1, 1, none⟩ = some (.int .u32 yn) ∧ B + 1 < w'.heap.size ∧ W3.heap.size ≤ w'.heap.size ∧ Below W3.heap.size W3 w') → Tab w'.heap.size w' := fun w' h => (HT.out.on (KB.out.trans (h.2.2.2.2.2.2.mono KB.out.size))).up (Nat.le_trans KB.out.size h.2.2.2.2.2.1)
      have HTX := Lib.hid (fun (w' : World) (h : w'.cell? ⟨B, 0, none⟩ = some (.int .i64 xo) ∧ w'.cell? ⟨B, 1, none⟩ = some (.int .u32 xn) ∧ w'.cell? ⟨B + 1, 0, none⟩ = some (.int .i64 yo) ∧ w'.cell? ⟨B + 1, 1, none⟩ = some (.int .u32 yn) ∧ B + 1 < w'.heap.size ∧ W3.heap.size ≤ w'.heap.size ∧ Below W3.heap.size W3 w') => hTX w' (hTab w' h))
      have HTY := Lib.hid (fun (w' : World) (h : w'.cell? ⟨B, 0, none⟩ = some (.int .i64 xo) ∧ w'.cell? ⟨B, 1, none⟩ = some (.int .u32 xn) ∧ w'.cell? ⟨B + 1, 0, none⟩ = some (.int .i64 yo) ∧ w'.cell? ⟨B + 1, 1, none⟩ = some (.int .u32 yn) ∧ B + 1 < w'.heap.size ∧ W3.heap.size ≤ w'.heap.size ∧ Below W3.heap.size W3 w') => hTY w' (hTab w' h))
      have HKN := Lib.hid (fun (w' : World) (h : w'.cell? ⟨B, 0, none⟩ = some (.int .i64 xo) ∧ w'.cell? ⟨B, 1, none⟩ = some (.int .u32 xn) ∧ w'.cell? ⟨B + 1, 0, none⟩ = some (.int .i64 yo) ∧ w'.cell? ⟨B + 1, 1, none⟩ = some (.int .u32 yn) ∧ B + 1 < w'.heap.size ∧ W3.heap.size ≤ w'.heap.size ∧ Below W3.heap.size W3 w') => known_any w' (hTab w' h))
      clear hTX hTY hTab
      generalize hb1 : (xo == yo) = b1 at *
      generalize hb2 : (xn == yn) = b2 at *
      cases b1 <;> cases b2
      all_goals
        simp only [Bool.and_self, Bool.false_and, Bool.and_false] at hq
        go_wp2_with fail
        go_region_held3 (fun w' => w'.cell? ⟨B, 0, none⟩ = some (.int .i64 xo) ∧ w'.cell? ⟨B, 1, none⟩ = some (.int .u32 xn) ∧ w'.cell? ⟨B + 1, 0, none⟩ = some (.int .i64 yo) ∧ w'.cell? ⟨B + 1, 1, none⟩ = some (.int .u32 yn) ∧ B + 1 < w'.heap.size ∧ W3.heap.size ≤ w'.heap.size ∧ Below W3.heap.size W3 w')
          (first | exact ⟨c0, c1, d0, d1, hzr, hR.out.size, hR.out.drew⟩ | assumption | (refine box22_keep ?_ hb9; assumption))
          (first
            | (go_at_call 24; ((with_reducible refine (HTX.out _ (by assumption)).mono ?_); rintro e w2 ⟨rfl, hb9⟩))
            | (go_at_call 24; ((with_reducible refine (HTY.out _ (by assumption)).mono ?_); rintro e w2 ⟨rfl, hb9⟩))
            | (go_at_call 11; ((with_reducible refine (HKN.out _ (by assumption)).mono ?_); rintro e w2 ⟨rfl, hb9⟩)))
        go_split_ands
        go_wp2
        go_ret
        exact ⟨rfl, KB.out.trans (Below.mono (B := W3.heap.size) (by assumption) KB.out.size)⟩
end Go.Proofs.YtmgjojgjonighaaDoor

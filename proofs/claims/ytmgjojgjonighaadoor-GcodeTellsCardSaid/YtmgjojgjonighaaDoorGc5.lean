/-
  gcode.Text: A CONTRACT.
-/
import Derived.Test.YtmgjojgjonighaaDoorGc3
import Derived.Test.YtmgjojgjonighaaDoorGc4
import Derived.Test.YtmgjojgjonighaaDoorMem
import Derived.Deep.RegionHeld3
namespace Go.Proofs.YtmgjojgjonighaaDoor
open Go.RowKit
set_option linter.unusedSimpArgs false
set_option linter.unusedVariables false

/-- what is told of an instruction -/
def txV (op n : Int) : List UInt8 := if okV op n = true then (if szV op = 1 then nmV op else nmV op ++ 32 :: Lib.decDigits n.toNat) else [63]

theorem len_ite {c : Prop} [Decidable c] {a b : List UInt8} (ha : a.length ≤ 5) (hb : b.length ≤ 5) : (if c then a else b).length ≤ 5 := by split <;> assumption
theorem nm_len (op : Int) : (nmV op).length ≤ 5 := by
  unfold nmV
  repeat' (refine len_ite ?_ ?_)
  all_goals decide
theorem dec_len (u : Nat) (h : u < 18446744073709551616) : (Lib.decDigits u).length ≤ 20 := by
  rw [Lib.decDigits_length]
  rcases Nat.eq_zero_or_pos u with h0 | h0
  · subst h0; rw [Lib.nDigits_small (by omega)]; omega
  · have := Lib.numDigits_eq u h0 h; split at this <;> omega
set_option maxRecDepth 100000 in
set_option maxHeartbeats 1000000 in
theorem text_any (op n : Int) (n0 : 0 ≤ n) (n1 : n < 4294967296) (w : World) (htab : Lib.TabBelow Tryd.prog w.heap.size w "internal/strconv.uint64pow10" .u64 Lib.pow10Tab) :
    Calls Tryd.prog 24 #[.agg #[.int .i64 op, .int .u32 n]] w fun e w' => e = .returned (.string ⟨(txV op n).toArray⟩) ∧ Below w.heap.size w w' := by
  cases hk : okV op n
  · have e : txV op n = [63] := by simp [txV, hk]
    rw [e]; clear e
    have hr := right_any op n n0
    rw [hk] at hr
    have HR := Lib.hid hr
    clear hr hk
    go_enter Tryd.func24, Tryd.ntmps24
    go_wp2_with (go_at_call 23; refine (HR.out _).mono ?_; rintro e w1 ⟨rfl, hb⟩)
    go_ret
    exact ⟨rfl, ((Below.refl _ _).alloc (Nat.le_refl _) _).trans (hb.mono (by simp))⟩
  · obtain ⟨u, rfl⟩ : ∃ u : Nat, n = u := ⟨n.toNat, by omega⟩
    have hr := right_any op u n0
    rw [hk] at hr
    have HR := Lib.hid hr
    clear hr
    have hs0 : szV op ≠ 0 := by intro h; simp [okV, h] at hk
    by_cases h1 : szV op = 1
    · have e : txV op u = nmV op := by simp [txV, hk, h1]
      rw [e]; clear e
      have H1 := Lib.hid h1
      have H0 := Lib.hid hs0
      clear hk h1 hs0
      have HB := Lib.hid (box2_new w (.int .i64 op) (.int .u32 u) 26)
      go_enter Tryd.func24, Tryd.ntmps24
      go_wp2_with (go_at_call 23; refine (HR.out _).mono ?_; rintro e w1 ⟨rfl, hb⟩; obtain ⟨c0, c1, cs, cb⟩ := box2_keep HB.out hb; clear hb)
      have hsz := size_any op
      rw [H1.out] at hsz
      have HS := Lib.hid hsz
      clear hsz
      go_wp2_with (first | (go_at_call 15; refine (HS.out _).mono ?_; rintro e w2 ⟨rfl, rfl⟩) | (go_at_call 40; refine (name_any _ H0.out _).mono ?_; rintro e w2 ⟨rfl, rfl⟩))
      go_ret
      exact ⟨rfl, cb⟩
    · have e : txV op u = nmV op ++ 32 :: Lib.decDigits u := by simp [txV, hk, h1]
      rw [e]; clear e
      have h1' : (szV op == 1) = false := by simpa using h1
      have hA := nm_len op
      have hD := dec_len u (by omega)
      have hwr : IntKind.u64.wrap (u : Int) = (u : Int) := by rw [IntKind.wrap_u64]; omega
      have hN := name_any op hs0
      have hF : ∀ W, Below w.heap.size w W → Calls Tryd.prog 41 #[.int .u64 u, .int .i64 10] W fun e w' => e = .returned (.string ⟨(Lib.decDigits u).toArray⟩) ∧ Below W.heap.size W w' := fun W hW => fmtU_any u (by omega) _ (htab.on hW).here
      have ha : ∀ W, (Op.stringOp .add ⟨(nmV op).toArray⟩ ⟨#[32]⟩).run Tryd.prog W = .ok (.string ⟨(nmV op ++ [32]).toArray⟩) W := fun W => run_string_add_lists W (nmV op) [32] (by omega) (by decide)
      have hb : ∀ W, (Op.stringOp .add ⟨(nmV op ++ [32]).toArray⟩ ⟨(Lib.decDigits u).toArray⟩).run Tryd.prog W = .ok (.string ⟨(nmV op ++ 32 :: Lib.decDigits u).toArray⟩) W := fun W => by
        rw [run_string_add_lists W (nmV op ++ [32]) (Lib.decDigits u) (by simp; omega) (by omega)]; simp
      clear hk h1 hs0 htab hA hD
      generalize (⟨(nmV op ++ 32 :: Lib.decDigits u).toArray⟩ : ByteArray) = R at *
      generalize (⟨(nmV op ++ [32]).toArray⟩ : ByteArray) = AB at *
      generalize (⟨(nmV op).toArray⟩ : ByteArray) = A at *
      generalize (⟨(Lib.decDigits u).toArray⟩ : ByteArray) = D at *
      have HN := Lib.hid hN
      have HF := Lib.hid hF
      clear hN hF
      have HB := Lib.hid (box2_new w (.int .i64 op) (.int .u32 u) 26)
      go_enter Tryd.func24, Tryd.ntmps24
      go_wp2_with (first | (go_at_call 23; refine (HR.out _).mono ?_; rintro e w1 ⟨rfl, hb⟩; obtain ⟨c0, c1, cs, cb⟩ := box2_keep HB.out hb; clear hb) | (go_at_call 15; refine (size_any _ _).mono ?_; rintro e w2 ⟨rfl, rfl⟩))
      go_region_held3 (fun w' => w'.cell? ⟨w.heap.size, 0, none⟩ = some (.int .i64 op) ∧ w'.cell? ⟨w.heap.size, 1, none⟩ = some (.int .u32 u) ∧ w.heap.size < w'.heap.size ∧ Below w.heap.size w w')
        (first | exact ⟨c0, c1, cs, cb.drew⟩ | assumption | (refine box2_keep ?_ hb3; assumption))
        (first | (go_at_call 40; refine (HN.out _).mono ?_; rintro e w2 ⟨rfl, rfl⟩) | (go_at_call 41; refine (HF.out _ (by go_split_ands; assumption)).mono ?_; rintro e w2 ⟨rfl, hb3⟩))
      go_split_ands
      go_wp2
      go_ret
      exact ⟨rfl, by assumption⟩
end Go.Proofs.YtmgjojgjonighaaDoor

/-
  hcode.Text: A CONTRACT.
-/
import Derived.Test.YthobedekeebadaaDoorHn
import Derived.Test.YthobedekeebadaaDoorHc3
import Derived.Test.YthobedekeebadaaDoorHb
import Derived.Deep.LoopGhost
import Derived.Outline
namespace Go.Proofs.YthobedekeebadaaDoor
open Go.RowKit
set_option linter.unusedSimpArgs false
set_option linter.unusedVariables false

def Tab (B : Nat) (w : World) : Prop := Lib.TabBelow Tryd.prog B w "internal/strconv.uint64pow10" .u64 Lib.pow10Tab
theorem Tab.on {B : Nat} {w w' : World} (h : Tab B w) (hb : Below B w w') : Tab B w' := Lib.TabBelow.on h hb
theorem Tab.up {B B' : Nat} {w : World} (h : Tab B w) (hB : B ≤ B') : Tab B' w := fun w' hb => h w' (hb.mono hB)

/-- numbers, a blank ahead of each -/
def sps (l : List Nat) : List UInt8 := l.flatMap fun u => 32 :: Lib.decDigits u
theorem sps_snoc (l : List Nat) (u : Nat) : sps (l ++ [u]) = sps l ++ 32 :: Lib.decDigits u := by simp [sps]
theorem sps_len (l : List Nat) (h : ∀ u ∈ l, u < 18446744073709551616) : (sps l).length ≤ 21 * l.length := by
  induction l with
  | nil => simp [sps]
  | cons u l ih =>
    have h1 := ih (fun x hx => h x (by simp [hx]))
    have h2 := dec_len u (h u (by simp))
    simp only [sps, List.flatMap_cons, List.length_append, List.length_cons] at h1 ⊢
    omega
/-- what is told of an instruction -/
def thV (o d a b n : Int) : List UInt8 := if okH o d a b n = true then nmH o ++ sps [d.toNat, a.toNat, b.toNat, n.toNat] else [63]

set_option maxRecDepth 100000 in
set_option maxHeartbeats 2000000 in
theorem text_not (o d a b n : Int) (hk : okH o d a b n = false) (w : World) :
    Calls Tryd.prog 13 #[hv o d a b n] w fun e w' => e = .returned (.string ⟨#[63]⟩) ∧ Below w.heap.size w w' := by
  have hr := right_any o d a b n
  rw [hk] at hr
  have HR := Lib.hid hr
  clear hr hk
  go_enter Tryd.func13, Tryd.ntmps13
  go_wp2_with (go_at_call 19; refine (HR.out _).mono ?_; rintro e w1 ⟨rfl, hb⟩)
  go_ret
  exact ⟨rfl, ((Below.refl _ _).alloc (Nat.le_refl _) _).trans (hb.mono (by simp))⟩

set_option maxRecDepth 100000 in
set_option maxHeartbeats 2000000 in
theorem text_ok (o : Int) (d a b n : Nat) (hk : okH o d a b n = true) (n1 : n < 4294967296) (w : World) (ht : Tab w.heap.size w) :
    Calls Tryd.prog 13 #[hv o d a b n] w fun e w' => e = .returned (.string ⟨(nmH o ++ sps [d, a, b, n]).toArray⟩) ∧ Below w.heap.size w w' := by
  have hr := right_any o d a b n
  rw [hk] at hr
  obtain ⟨⟨o0, o1⟩, ⟨d0, d1⟩, ⟨a0, a1⟩, ⟨b0, b1⟩⟩ := okH_bd hk
  have hn := name_any o (by simp [isO]; omega)
  have hnl := nm_len o
  have hsl := sps_len [d, a, b, n] (by simp; omega)
  have HR := Lib.hid hr
  have HN := Lib.hid hn
  have HT := Lib.hid ht
  have uw : ∀ x : Nat, x < 4294967296 → IntKind.u64.wrap (x : Int) = (x : Int) := fun x x1 => by rw [IntKind.wrap_u64]; omega
  have u1 := uw d (by omega)
  have u2 := uw a (by omega)
  have u3 := uw b (by omega)
  have u4 := uw n (by omega)
  have HB0 := Lib.hid (Box5.new w (.int .i64 o) (.int .i64 d) (.int .i64 a) (.int .i64 b) (.int .u32 n) 24)
  have HB1 := Lib.hid ((Below.refl w.heap.size w).alloc (Nat.le_refl _) (.cells #[.int .i64 o, .int .i64 d, .int .i64 a, .int .i64 b, .int .u32 n] 24))
  clear hr hn ht hk uw
  go_enter Tryd.func13, Tryd.ntmps13
  go_wp2_with (first
    | (go_at_call 19; refine (HR.out _).mono ?_; rintro e w1 ⟨rfl, hb⟩; obtain ⟨c0, c1, c2, c3, c4⟩ := HB0.out.keep hb (by simp); have B1 := Lib.hid (HB1.out.trans (hb.mono (by simp))); have hz1 : w.heap.size < w1.heap.size := (by have := hb.size; simp at this; omega); clear hb)
    | (go_at_call 23; refine (HN.out _).mono ?_; rintro e w2 ⟨rfl, rfl⟩))
  have k0 : ∀ j, j < 4 → (w1.alloc (.cells #[.int .u64 d, .int .u64 a, .int .u64 b, .int .u64 n] 48)).cell? ⟨w1.heap.size, j, none⟩ = some (.int .u64 (([d, a, b, n].getD j 0 : Nat) : Int)) := fun j hj => by
    rw [World.cell?_alloc_new]
    have : j = 0 ∨ j = 1 ∨ j = 2 ∨ j = 3 := by omega
    rcases this with rfl | rfl | rfl | rfl <;> rfl
  have kb : Below w.heap.size w (w1.alloc (.cells #[.int .u64 d, .int .u64 a, .int .u64 b, .int .u64 n] 48)) := B1.out.alloc (Nat.le_of_lt hz1) _
  have kz : w1.heap.size < (w1.alloc (.cells #[.int .u64 d, .int .u64 a, .int .u64 b, .int .u64 n] 48)).heap.size := by simp
  generalize hVL : [d, a, b, n] = VL at *
  have hV4 : VL.length = 4 := by rw [← hVL]; rfl
  have hVb : ∀ j, j < 4 → VL.getD j 0 < 18446744073709551616 := fun j hj => by
    have : j = 0 ∨ j = 1 ∨ j = 2 ∨ j = 3 := by omega
    rw [← hVL]
    rcases this with rfl | rfl | rfl | rfl <;> simp <;> omega
  generalize w1.alloc (.cells #[.int .u64 d, .int .u64 a, .int .u64 b, .int .u64 n] 48) = W at *
  have K0 := Lib.hid k0
  have KB := Lib.hid kb
  have HVB := Lib.hid hVb
  have HVL := Lib.hid hVL
  clear k0 kb hVb hVL c0 c1 c2 c3 c4 HB0 HB1 HR HN u1 u2 u3 u4
  go_loopw [3, 26] (fun s i wr => ∃ k : Nat, k ≤ 4 ∧ s = .string ⟨(nmH o ++ sps (VL.take k)).toArray⟩ ∧ i = .int .i64 k ∧ Hid (Below W.heap.size W wr)) (fun _ i _ => 4 - (intOf i).toNat)
  case atStart => exact ⟨0, by omega, by simp [sps], rfl, Below.refl _ _⟩
  case round =>
    obtain ⟨k, hk, rfl, rfl, hB⟩ := hrel
    by_cases hlt : k < 4
    · have e0 := (hB.out.cell (p := ⟨w1.heap.size, k, none⟩) kz).trans (K0.out k hlt)
      have hub := HVB.out k hlt
      have htk : VL.take (k + 1) = VL.take k ++ [VL.getD k 0] := by
        rw [List.take_succ_eq_append_getElem (by omega)]; simp [List.getD, List.getElem?_eq_getElem (show k < VL.length by omega)]
      have hl1 : (sps (VL.take k)).length ≤ 84 := by
        have := sps_len (VL.take k) (fun u hu => by
          obtain ⟨j, hj, rfl⟩ := List.mem_iff_getElem.1 hu
          rw [List.length_take] at hj
          have := HVB.out j (by omega)
          simpa [List.getD, List.getElem?_eq_getElem (show j < VL.length by omega)] using this)
        rw [List.length_take] at this; omega
      generalize VL.getD k 0 = u at *
      have hdl := dec_len u hub
      have hF : ∀ W', Below W.heap.size W W' → Calls Tryd.prog 24 #[.int .u64 u, .int .i64 10] W' fun e w' => e = .returned (.string ⟨(Lib.decDigits u).toArray⟩) ∧ Below W'.heap.size W' w' := fun W' hW => fmtU_any u hub _ (((HT.out.on KB.out).up (by have := KB.out.size; omega)).on hW).here
      have ha : ∀ W', (Op.stringOp .add ⟨#[32]⟩ ⟨(Lib.decDigits u).toArray⟩).run Tryd.prog W' = .ok (.string ⟨(32 :: Lib.decDigits u).toArray⟩) W' := fun W' => run_string_add_lists W' [32] (Lib.decDigits u) (by decide) (by omega)
      have hb : ∀ W', (Op.stringOp .add ⟨(nmH o ++ sps (VL.take k)).toArray⟩ ⟨(32 :: Lib.decDigits u).toArray⟩).run Tryd.prog W' = .ok (.string ⟨(nmH o ++ sps (VL.take (k + 1))).toArray⟩) W' := fun W' => by
        rw [run_string_add_lists W' (nmH o ++ sps (VL.take k)) (32 :: Lib.decDigits u) (by simp; omega) (by simp; omega), htk, sps_snoc, List.append_assoc]
      clear htk hl1 hdl hub
      generalize hR : (⟨(nmH o ++ sps (VL.take (k + 1))).toArray⟩ : ByteArray) = R at *
      generalize (⟨(nmH o ++ sps (VL.take k)).toArray⟩ : ByteArray) = S at *
      generalize (⟨(32 :: Lib.decDigits u).toArray⟩ : ByteArray) = T at *
      generalize (⟨(Lib.decDigits u).toArray⟩ : ByteArray) = D at *
      have HRR := Lib.hid hR
      have HF := Lib.hid hF
      clear hR hF
      go_wp2_with (go_at_call 24; refine (HF.out _ hB.out).mono ?_; rintro e w5 ⟨rfl, hb5⟩; have B5 := Lib.hid (hB.out.trans (hb5.mono hB.out.size)); clear hb5)
      go_roundw
      case rel => exact ⟨k + 1, by omega, by rw [HRR.out], by go_num, B5⟩
      case measure => simp [intOf]; omega
    · obtain rfl : k = 4 := by omega
      have e4 : VL.take 4 = VL := List.take_of_length_le (by omega)
      rw [e4]
      go_wp2_with fail
      go_ret
      exact ⟨by rw [HVL.out]; rfl, KB.out.trans (hB.out.mono KB.out.size)⟩
theorem text_any (o d a b n : Int) (n0 : 0 ≤ n) (n1 : n < 4294967296) (w : World) (ht : Tab w.heap.size w) :
    Calls Tryd.prog 13 #[hv o d a b n] w fun e w' => e = .returned (.string ⟨(thV o d a b n).toArray⟩) ∧ Below w.heap.size w w' := by
  cases hk : okH o d a b n
  · rw [show thV o d a b n = [63] by simp [thV, hk]]
    exact text_not o d a b n hk w
  · obtain ⟨⟨o0, o1⟩, ⟨d0, d1⟩, ⟨a0, a1⟩, ⟨b0, b1⟩⟩ := okH_bd hk
    rw [show thV o d a b n = nmH o ++ sps [d.toNat, a.toNat, b.toNat, n.toNat] by simp [thV, hk]]
    obtain ⟨d, rfl⟩ := Int.eq_ofNat_of_zero_le d0
    obtain ⟨a, rfl⟩ := Int.eq_ofNat_of_zero_le a0
    obtain ⟨b, rfl⟩ := Int.eq_ofNat_of_zero_le b0
    obtain ⟨n, rfl⟩ := Int.eq_ofNat_of_zero_le n0
    exact text_ok o d a b n hk (by omega) w ht
end Go.Proofs.YthobedekeebadaaDoor

/-
  innkeeperlaw3.reads returns true; innkeeperkeep.Sized: A CONTRACT EACH.
-/
import Derived.Test.YthobedekeebadaaDoorHr2
import Derived.Test.YthobedekeebadaaDoorHp
import Derived.Laws.CopyOwn
import Derived.Deep.OwnRows
namespace Go.Proofs.YthobedekeebadaaDoor
open Go.RowKit
set_option linter.unusedSimpArgs false
set_option linter.unusedVariables false

set_option maxRecDepth 100000 in
set_option maxHeartbeats 2000000 in
theorem reads_any (A : Option Addr) (c : Nat) (l : List UInt8) (w : World) (hr : Rd w w.heap.size A (bv l)) :
    Calls Tryd.prog 8 #[.slice A l.length c] w fun e w' => e = .returned (.bool true) ∧ Below w.heap.size w w' := by
  have h1 := decode_any A c l w hr
  have h2 := fun (W : World) (hb : Below w.heap.size w W) => rdecode_any A c l W ((Rd.below hr hb).more hb.size)
  have hcs : (dcE l = 0 ∧ l.length = 8) ∨ (dcE l = 10 ∧ l.length ≠ 8) ∨ (dcE l = 12 ∧ l.length = 8) := by
    rcases dcE_cases l with h | h | h
    · exact .inl ⟨h, (dc_ec l h).1⟩
    · exact .inr (.inl h)
    · exact .inr (.inr h)
  generalize l.length = L at *
  generalize dcI l = q at *
  obtain ⟨o, d, a, b, n⟩ := q
  simp only [Hi.v] at h1 h2
  generalize dcE l = E at *
  clear hr
  have H1 := Lib.hid h1
  have H2 := Lib.hid h2
  clear h1 h2
  rcases hcs with ⟨rfl, hL⟩ | ⟨rfl, hL⟩ | ⟨rfl, hL⟩
  all_goals
    try subst hL
    try (have hL8 : ((L : Int) != 8) = true := (by simp; omega))
    simp only [show ((0 : Int) == 0) = true by decide, show ((10 : Int) == 0) = false by decide, show ((12 : Int) == 0) = false by decide] at H2
    go_enter Tryd.func8, Tryd.ntmps8
    go_wp2_with fail
    refine H1.out.mono ?_
    rintro e w1 ⟨rfl, hb⟩
    go_wp2_with fail
    have k1 := Box5.new w1 (.int .i64 o) (.int .i64 d) (.int .i64 a) (.int .i64 b) (.int .u32 n) 24
    have cb : Below w1.heap.size w1 (w1.alloc (.cells #[.int .i64 o, .int .i64 d, .int .i64 a, .int .i64 b, .int .u32 n] 24)) := (Below.refl _ _).alloc (Nat.le_refl _) _
    have hb1 := hb.trans (cb.mono hb.size)
    refine (H2.out _ hb1).mono ?_
    rintro e w2 ⟨rfl, hb2⟩
    obtain ⟨d0, d1, d2, d3, d4⟩ := k1.keep hb2 (by simp)
    have hb3 := hb1.trans (hb2.mono hb1.size)
    have hz2 : w1.heap.size < w2.heap.size := by have := hb2.size; simp at this; omega
    have HB3 := Lib.hid hb3
    clear k1 cb hb hb1 hb2 hb3 H1 H2
    go_wp2
    go_ret
    exact ⟨rfl, HB3.out.alloc HB3.out.size _⟩

/-- just eight bytes -/
def sz8 (l : List UInt8) : List UInt8 := l.take 8 ++ List.replicate (8 - l.length) 0
theorem sz8_len (l : List UInt8) : (sz8 l).length = 8 := by simp [sz8]; omega
theorem splice_zero {α : Type} (z : α) (xs : List α) (m : Nat) : splice (List.replicate m z) 0 (xs.take m) = xs.take m ++ List.replicate (m - xs.length) z := by
  have e : m - min m xs.length = m - xs.length := by omega
  simp [splice, e]
theorem made_u8 (n : Nat) : madeCells #[Value.int .u8 0] n = (List.replicate n (Value.int .u8 0)).toArray := by
  apply Array.ext
  · rw [size_madeCells]; simp
  · intro i h1 h2; simp [madeCells, Nat.mod_one]
theorem sz8_splice (l : List UInt8) : splice (List.replicate 8 (Value.int .u8 0)) 0 ((bv l).take 8) = bv (sz8 l) := by
  rw [splice_zero, bv_length]
  unfold sz8
  rw [bv_append]
  congr 1
  · simp [bv, List.map_take]
  · generalize 8 - l.length = k
    simp [bv]
set_option maxRecDepth 100000 in
set_option maxHeartbeats 2000000 in
theorem sized_any (A : Option Addr) (c : Nat) (l : List UInt8) (hl : l.length ≤ c) (hc : c ≤ maxLen) (w : World) (h1 : Rd w w.heap.size A (bv l)) :
    Calls Tryd.prog 11 #[.slice A l.length c, .int .i64 8] w fun e w' => e = .returned (.slice (some ⟨w.heap.size, 0, none⟩) 8 8) ∧ Rd w' w'.heap.size (some ⟨w.heap.size, 0, none⟩) (bv (sz8 l)) ∧ Below w.heap.size w w' := by
  have hm1 := made_u8 8
  have hmk := fun W => run_make_row' (P := Tryd.prog) 28 5 (.int .u8 0) 1 Tryd.underlying28 Tryd.info_u8 rfl .i64 .i64 8 (by omega) (by omega) W
  simp only [Int.cast_ofNat_Int] at hmk
  have H1 := Lib.hid h1
  clear h1
  unfold maxLen at hc
  go_enter Tryd.func11, Tryd.ntmps11
  have hsz1 : (Tryd.prog.info? 5).map (·.size) = some 1 := by kernel_rfl
  have hkb : (w.alloc (.cells (madeCells #[Value.int .u8 0] 8) 5)).heap[w.heap.size]? = some (.cells (List.replicate 8 (Value.int .u8 0)).toArray 5 (0, 0)) := by
    rw [heap_alloc_new, hm1]
  have hbb : Below w.heap.size w (w.alloc (.cells (madeCells #[Value.int .u8 0] 8) 5)) := (Below.refl _ _).alloc (Nat.le_refl _) _
  have hps : 0 < ((bv l).take 8).length → (some ⟨w.heap.size, 0, none⟩ : Option Addr) = some ⟨w.heap.size, 0, none⟩ ∧ ∃ ad, A = some ad ∧ ∀ j v, ((bv l).take 8)[j]? = some v → (w.alloc (.cells (madeCells #[Value.int .u8 0] 8) 5)).cell? (ad.add j) = some v := fun hp => by
    obtain ⟨g, off, rfl, hg, hc⟩ := (H1.out.take 8) hp
    refine ⟨rfl, _, rfl, fun j v hv => ?_⟩
    have hadd : (⟨g, off, none⟩ : Addr).add j = ⟨g, off + j, none⟩ := by unfold Addr.add; split <;> simp_all
    rw [hadd]
    exact (hbb.cell (p := ⟨g, off + j, none⟩) hg).trans (hc j v hv)
  have hone : ∀ v ∈ (bv l).take 8, v.oneCell' = true := fun v hv => bv_one l v (List.mem_of_mem_take hv)
  have HKB := Lib.hid hkb
  have HBB := Lib.hid hbb
  have HPS := Lib.hid hps
  clear hkb hbb hps hm1
  go_wp2_with (refine wpList_copy_splice rfl (.tmp 8) (.tmp 9) 28 28 rfl 5 Tryd.underlying28 hsz1 (some ⟨w.heap.size, 0, none⟩) A 8 8 l.length c rfl rfl w.heap.size 0 (List.replicate 8 (.int .u8 0)) 5 HKB.out ((bv l).take 8) (by rw [List.length_take, bv_length]; exact Nat.min_comm _ _) HPS.out (by rw [List.length_take, bv_length]; simp; omega) hone w.heap.size w HBB.out (Nat.le_refl _) ?_; intro w2 HG2 hB2)
  rw [sz8_splice] at HG2
  have HB2 := Lib.hid hB2
  have HG := Lib.hid HG2
  clear hB2 HG2 HKB HBB HPS hone hsz1 hmk H1
  go_wp2_with fail
  go_ret
  have hg : Blk w2 w.heap.size 5 (bv (sz8 l)).toArray := HG.out
  refine ⟨rfl, fun hn => ⟨w.heap.size, 0, rfl, hg.lt, fun j u hu => ?_⟩, HB2.out⟩
  rw [hg.cell]
  simpa using hu
end Go.Proofs.YthobedekeebadaaDoor

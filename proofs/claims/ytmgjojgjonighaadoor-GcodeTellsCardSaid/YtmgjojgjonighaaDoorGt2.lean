/-
  innkeeperbook.Roomy of bytes: the list, and 80 marks behind it, in new memory.
-/
import Derived.Test.YtmgjojgjonighaaDoorBytes
import Derived.Test.YtmgjojgjonighaaDoorMem
import Derived.Test.YtmgjojgjonighaaDoorGc7
import Derived.Test.YtmgjojgjonighaaDoorAppR
import Derived.Laws.CopyOwn
import Derived.Deep.OwnRows
import Derived.Deep.LoopGhost
import Derived.Outline
namespace Go.Proofs.YtmgjojgjonighaaDoor
open Go.RowKit
set_option linter.unusedSimpArgs false
set_option linter.unusedVariables false

/-- what Roomy has laid behind j of its marks -/
def rmV (xs : List Value) (M : Value) (j : Nat) : List Value := xs ++ (List.replicate j M ++ List.replicate (80 - j) (.int .u8 0))
theorem rm_get (xs : List Value) (M : Value) (j : Nat) (h : j < 80) : (rmV xs M j).toArray[xs.length + j]? = some (.int .u8 0) := by
  rw [List.getElem?_toArray, rmV, List.getElem?_append_right (by omega), List.getElem?_append_right (by simp), List.length_replicate, show xs.length + j - xs.length - j = 0 by omega, List.getElem?_replicate, if_pos (by omega)]
theorem rm_set (xs : List Value) (M : Value) (j : Nat) (h : j < 80) : (rmV xs M j).toArray.setIfInBounds (xs.length + j) M = (rmV xs M (j + 1)).toArray := by
  rw [List.setIfInBounds_toArray, rmV, rmV, List.set_append_right _ _ (by omega), List.set_append_right _ _ (by simp)]
  rw [show 80 - j = (80 - (j + 1)) + 1 by omega, List.replicate_succ, List.replicate_succ']
  simp
theorem rm_zero (xs : List Value) (M : Value) : splice (List.replicate (xs.length + 80) (Value.int .u8 0)) 0 xs = rmV xs M 0 := by
  simp [splice, rmV]
theorem rm_end (xs : List Value) (M : Value) : rmV xs M 80 = xs ++ List.replicate 80 M := by simp [rmV]

set_option maxRecDepth 100000 in
set_option maxHeartbeats 2000000 in
theorem roomy_any (A : Option Addr) (c : Nat) (l : List UInt8) (m : Int) (hl : l.length ≤ c) (hc : l.length ≤ 140737488351232) (w : World) (h1 : Rd w w.heap.size A (bv l)) :
    Calls Tryd.prog 12 #[.slice A l.length c, .int .u8 m] w fun e w' => e = .returned (.slice (some ⟨w.heap.size, 0, none⟩) (l.length + 80) (l.length + 80)) ∧ w'.heap[w.heap.size]? = some (.cells ((bv l ++ List.replicate 80 (Value.int .u8 m)).toArray) 5 (0, 0)) ∧ Below w.heap.size w w' := by
  have hm1 : madeCells #[Value.int .u8 0] (l.length + 80) = (List.replicate (l.length + 80) (Value.int .u8 0)).toArray := by
    apply Array.ext
    · rw [size_madeCells]; simp
    · intro i h1 h2; simp [madeCells, Nat.mod_one]
  have hmk := fun W => run_make_row' (P := Tryd.prog) 27 5 (.int .u8 0) 1 Tryd.underlying27 Tryd.info_u8 rfl .i64 .i64 (l.length + 80) (by omega) (by omega) W
  simp only [Int.natCast_add, Int.cast_ofNat_Int] at hmk
  have H1 := Lib.hid h1
  clear h1
  go_enter Tryd.func12, Tryd.ntmps12
  have hsz1 : (Tryd.prog.info? 5).map (·.size) = some 1 := by kernel_rfl
  have hkb : (w.alloc (.cells (madeCells #[Value.int .u8 0] (l.length + 80)) 5)).heap[w.heap.size]? = some (.cells (List.replicate (l.length + 80) (Value.int .u8 0)).toArray 5 (0, 0)) := by
    rw [heap_alloc_new, hm1]
  have hbb : Below w.heap.size w (w.alloc (.cells (madeCells #[Value.int .u8 0] (l.length + 80)) 5)) := (Below.refl _ _).alloc (Nat.le_refl _) _
  have hps : 0 < (bv l).length → (some ⟨w.heap.size, 0, none⟩ : Option Addr) = some ⟨w.heap.size, 0, none⟩ ∧ ∃ ad, A = some ad ∧ ∀ j v, (bv l)[j]? = some v → (w.alloc (.cells (madeCells #[Value.int .u8 0] (l.length + 80)) 5)).cell? (ad.add j) = some v := fun hp => by
    obtain ⟨g, off, rfl, hg, hc⟩ := H1.out hp
    refine ⟨rfl, _, rfl, fun j v hv => ?_⟩
    have hadd : (⟨g, off, none⟩ : Addr).add j = ⟨g, off + j, none⟩ := by unfold Addr.add; split <;> simp_all
    rw [hadd]
    exact (hbb.cell (p := ⟨g, off + j, none⟩) hg).trans (hc j v hv)
  have hone : ∀ v ∈ bv l, v.oneCell' = true := fun v hv => by
    simp only [bv, List.mem_map] at hv
    obtain ⟨x, _, rfl⟩ := hv; rfl
  have HKB := Lib.hid hkb
  have HBB := Lib.hid hbb
  have HPS := Lib.hid hps
  clear hkb hbb hps hm1
  go_wp2_with (refine wpList_copy_splice rfl (.tmp 11) (.tmp 12) 27 27 rfl 5 Tryd.underlying27 hsz1 (some ⟨w.heap.size, 0, none⟩) A (l.length + 80) (l.length + 80) l.length c rfl rfl w.heap.size 0 (List.replicate (l.length + 80) (.int .u8 0)) 5 HKB.out (bv l) (by rw [bv_length]; exact (Nat.min_eq_left (by omega)).symm) HPS.out (by rw [bv_length]; simp) hone w.heap.size w HBB.out (Nat.le_refl _) ?_; intro w2 HG2 hB2)
  have hz : splice (List.replicate (l.length + 80) (Value.int .u8 0)) 0 (bv l) = rmV (bv l) (.int .u8 m) 0 := by rw [← rm_zero (bv l) (.int .u8 m), bv_length]
  rw [hz] at HG2
  clear hz HKB HBB HPS hone hsz1 hmk H1
  have HB2 := Lib.hid hB2
  clear hB2
  go_loopw [6] (fun i wr => ∃ k : Nat, l.length ≤ k ∧ k ≤ l.length + 80 ∧ i = .int .i64 k ∧ Hid (Blk wr w.heap.size 5 (rmV (bv l) (.int .u8 m) (k - l.length)).toArray) ∧ Hid (Below w.heap.size w wr)) (fun i _ => l.length + 80 - (intOf i).toNat)
  case atStart => exact ⟨l.length, by omega, by omega, rfl, by rw [Nat.sub_self]; exact HG2, HB2⟩
  case round =>
    obtain ⟨k, hk0, hk, rfl, hK, hR⟩ := hrel
    by_cases hlt : k < l.length + 80
    · have e1 : wr.cell? ⟨w.heap.size, k, none⟩ = some (.int .u8 0) := by
        rw [hK.out.cell k]
        have := rm_get (bv l) (.int .u8 m) (k - l.length) (by omega)
        rwa [bv_length, show l.length + (k - l.length) = k by omega] at this
      have e2 : wr.frozen? ⟨w.heap.size, k, none⟩ = false := hK.out.frozen k
      have hn : Blk (wr.setCell ⟨w.heap.size, k, none⟩ (.int .u8 m)) w.heap.size 5 (rmV (bv l) (.int .u8 m) (k + 1 - l.length)).toArray := by
        have := hK.out.put k (.int .u8 m)
        have h2 := rm_set (bv l) (.int .u8 m) (k - l.length) (by omega)
        rw [bv_length, show l.length + (k - l.length) = k by omega, show k - l.length + 1 = k + 1 - l.length by omega] at h2
        rwa [h2] at this
      have HN := Lib.hid hn
      clear hn
      go_wp2
      go_roundw
      case rel => exact ⟨k + 1, by omega, by omega, by go_num, HN, Lib.hid (hR.out.setCell (by simp) _)⟩
      case measure => simp [intOf]; omega
    · have hkk : k = l.length + 80 := by omega
      subst hkk
      rw [show l.length + 80 - l.length = 80 by omega, rm_end] at hK
      go_wp2
      go_ret
      exact ⟨rfl, hK.out, hR.out⟩
end Go.Proofs.YtmgjojgjonighaaDoor

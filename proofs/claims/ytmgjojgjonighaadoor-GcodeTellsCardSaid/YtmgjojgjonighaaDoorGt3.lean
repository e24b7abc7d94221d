/-
  innkeeperbook.Intact of bytes: a list and 80 marks behind it are as they were.
-/
import Derived.Test.YtmgjojgjonighaaDoorGt1
import Derived.Test.YtmgjojgjonighaaDoorGt2
import Derived.Test.YtmgjojgjonighaaDoorGk1
namespace Go.Proofs.YtmgjojgjonighaaDoor
open Go.RowKit
set_option linter.unusedSimpArgs false
set_option linter.unusedVariables false

set_option maxRecDepth 100000 in
set_option maxHeartbeats 2000000 in
theorem intact_any (G : Nat) (A : Option Addr) (c : Nat) (l : List UInt8) (m : Int) (hl : l.length ≤ c) (hc : c ≤ maxLen) (hb : l.length ≤ 140737488351232) (w : World)
    (hG : Blk w G 5 ((bv l ++ List.replicate 80 (Value.int .u8 m)).toArray)) (h1 : Rd w w.heap.size A (bv l)) :
    Calls Tryd.prog 14 #[.slice (some ⟨G, 0, none⟩) (l.length + 80) (l.length + 80), .slice A l.length c, .int .u8 m] w fun e w' => e = .returned (.bool true) ∧ Below w.heap.size w w' := by
  have hr : Rd w w.heap.size (some ⟨G, 0, none⟩) (bv l) := fun _ => ⟨G, 0, rfl, hG.lt, fun j u hu => by
    rw [Nat.zero_add]
    refine (hG.cell j).trans ?_
    rw [List.getElem?_toArray, List.getElem?_append_left]
    · exact hu
    · exact (List.getElem?_eq_some_iff.1 hu).1⟩
  have hs := bsame_any (some ⟨G, 0, none⟩) A (l.length + 80) c l (by omega) (by unfold maxLen; omega) hl hc w hr h1
  have hsl := slice_hi (some ⟨G, 0, none⟩) (l.length + 80) (l.length + 80) l.length (by omega) (by unfold maxLen; omega) (by simp)
  have HS := Lib.hid hs
  have HG := Lib.hid hG
  clear hs hr h1 hG
  unfold maxLen at hc
  go_enter Tryd.func14, Tryd.ntmps14
  go_wp2_with (go_at_call 37; refine HS.out.mono ?_; rintro e w1 ⟨rfl, hB⟩)
  go_loopw [7] (fun i wr => ∃ k : Nat, l.length ≤ k ∧ k ≤ l.length + 80 ∧ i = .int .i64 k ∧ Hid (Below w.heap.size w wr)) (fun i _ => l.length + 80 - (intOf i).toNat)
  case atStart => exact ⟨l.length, by omega, by omega, rfl, hB⟩
  case round =>
    obtain ⟨k, hk0, hk, rfl, hR⟩ := hrel
    by_cases hlt : k < l.length + 80
    · have e1 : wr.cell? ⟨G, k, none⟩ = some (.int .u8 m) := by
        refine ((HG.out.below hR.out HG.out.lt).cell k).trans ?_
        rw [List.getElem?_toArray, List.getElem?_append_right (by rw [bv_length]; omega), List.getElem?_replicate, if_pos (by rw [bv_length]; omega)]
      go_wp2
      go_roundw
      case rel => exact ⟨k + 1, by omega, by omega, by go_num, hR⟩
      case measure => simp [intOf]; omega
    · go_wp2
      go_ret
      exact ⟨rfl, hR.out⟩
end Go.Proofs.YtmgjojgjonighaaDoor

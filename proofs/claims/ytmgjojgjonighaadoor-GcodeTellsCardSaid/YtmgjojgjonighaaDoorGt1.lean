/-
  innkeeperbook.Same of bytes: two slices that hold the same list are the same.
-/
import Derived.Test.YtmgjojgjonighaaDoorBytes
import Derived.Test.YtmgjojgjonighaaDoorMem
import Derived.Test.YtmgjojgjonighaaDoorGc7
import Derived.Test.YtmgjojgjonighaaDoorAppR
import Derived.Deep.QuietTactic
import Derived.BigQuiet
import Derived.Deep.LoopGhost
import Derived.Outline
namespace Go.Proofs.YtmgjojgjonighaaDoor
open Go.RowKit
set_option linter.unusedSimpArgs false
set_option linter.unusedVariables false

set_option maxRecDepth 100000 in
set_option maxHeartbeats 2000000 in
theorem bsame_any (A1 A2 : Option Addr) (c1 c2 : Nat) (l : List UInt8) (hl1 : l.length ≤ c1) (hc1 : c1 ≤ maxLen) (hl2 : l.length ≤ c2) (hc2 : c2 ≤ maxLen) (w : World) (h1 : Rd w w.heap.size A1 (bv l)) (h2 : Rd w w.heap.size A2 (bv l)) :
    Calls Tryd.prog 37 #[.slice A1 l.length c1, .slice A2 l.length c2] w fun e w' => e = .returned (.bool true) ∧ Below w.heap.size w w' := by
  have H1 := Lib.hid h1
  have H2 := Lib.hid h2
  have hL : l.length ≤ maxLen := by omega
  unfold maxLen at hL hc1 hc2
  clear h1 h2
  go_enter Tryd.func37, Tryd.ntmps37
  go_wp2_with fail
  go_loopw [5] (fun i wr => ∃ k : Nat, k ≤ l.length ∧ i = .int .i64 k ∧ Hid (Below w.heap.size w wr)) (fun i _ => l.length - (intOf i).toNat)
  case atStart => exact ⟨0, by omega, rfl, Below.refl _ _⟩
  case round =>
    obtain ⟨k, hk, rfl, hR⟩ := hrel
    by_cases hlt : k < l.length
    · obtain ⟨g1, o1, rfl, hg1, e1⟩ := H1.out (by rw [bv_length]; omega)
      obtain ⟨g2, o2, rfl, hg2, e2⟩ := H2.out (by rw [bv_length]; omega)
      have f1 := (hR.out.cell (p := ⟨g1, o1 + k, none⟩) hg1).trans (e1 k _ (bv_at l k hlt))
      have f2 := (hR.out.cell (p := ⟨g2, o2 + k, none⟩) hg2).trans (e2 k _ (bv_at l k hlt))
      generalize nth l k = x at *
      clear e1 e2
      go_wp2_with fail
      go_quiet (fail)
      go_wp2_with fail
      go_roundw
      case rel => exact ⟨k + 1, by omega, by go_num, Lib.hid (Below_drewN hR.out nq)⟩
      case measure => simp [intOf]; omega
    · go_wp2_with fail
      go_ret
      exact ⟨rfl, hR.out⟩
end Go.Proofs.YtmgjojgjonighaaDoor

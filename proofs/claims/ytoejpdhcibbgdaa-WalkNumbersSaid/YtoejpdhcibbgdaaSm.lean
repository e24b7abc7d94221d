/-
  innkeeperbook.Same of numbers: A CONTRACT.
-/
import Derived.Test.YtoejpdhcibbgdaaPe
import Derived.Test.YtoejpdhcibbgdaaRd
import Derived.Deep.QuietTactic
import Derived.BigQuiet
import Derived.Outline
namespace Go.Proofs.Ytoejpdhcibbgdaa
open Go.RowKit
set_option linter.unusedSimpArgs false
set_option linter.unusedVariables false

set_option maxRecDepth 100000 in
theorem same_any (A B : Option Addr) (n c d : Nat) (L : List Nat) (hn : n = L.length) (hn2 : n ≤ 1000) (w : World) (hA : Rd w w.heap.size A (nv L)) (hB : Rd w w.heap.size B (nv L)) :
    Calls Try.prog 28 #[.slice A n c, .slice B n d] w fun e w' => e = .returned (.bool true) ∧ Below w.heap.size w w' := by
  have HA := Lib.hid hA
  have HB := Lib.hid hB
  have HN := Lib.hid hn
  clear hA hB hn
  go_enter Try.func28, Try.ntmps28
  go_wp2_with fail
  go_loopw [5] (fun i wr => ∃ k : Nat, k ≤ n ∧ i = .int .i64 k ∧ Hid (Below w.heap.size w wr)) (fun i _ => n - (intOf i).toNat)
  case atStart => exact ⟨0, by omega, rfl, Lib.hid (Below.refl _ _)⟩
  case round =>
    obtain ⟨k, hk, rfl, hW⟩ := hrel
    by_cases hlt : k < n
    · have hkl : k < L.length := by have := HN.out; omega
      obtain ⟨b, off, rfl, hb, hc⟩ := HA.out (by rw [nv_len]; omega)
      obtain ⟨b2, off2, rfl, hb2, hc2⟩ := HB.out (by rw [nv_len]; omega)
      have hck := (hW.out.cell (p := ⟨b, off + k, none⟩) hb).trans (hc k _ (nv_get hkl))
      have hck2 := (hW.out.cell (p := ⟨b2, off2 + k, none⟩) hb2).trans (hc2 k _ (nv_get hkl))
      have hk0 : (0 : Int) ≤ (k : Int) := by omega
      have hkn : (k : Int) < (n : Int) := by omega
      clear hc hc2
      generalize L[k] = x at *
      clear hkl
      have hself : ((x : Int) != (x : Int)) = false := by simp
      go_wp2
      go_quiet (fail)
      go_wp2
      go_roundw
      case rel => exact ⟨k + 1, by omega, by go_num, Lib.hid (Below_drewN hW.out _)⟩
      case measure => simp [intOf]; omega
    · obtain rfl : k = n := by omega
      clear hk hlt
      go_wp2
      go_ret
      exact ⟨rfl, hW.out⟩
end Go.Proofs.Ytoejpdhcibbgdaa

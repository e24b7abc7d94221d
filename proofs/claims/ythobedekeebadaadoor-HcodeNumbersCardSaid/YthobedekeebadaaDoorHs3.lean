/-
  innkeeperlaw3.same returns true.
-/
import Derived.Test.YthobedekeebadaaDoorHs2
namespace Go.Proofs.YthobedekeebadaaDoor
open Go.RowKit

theorem same_any (o d a b n : Int) (n0 : 0 ≤ n) (n1 : n < 4294967296) (w : World) (ht : Tab w.heap.size w) :
    Calls Tryd.prog 7 #[hv o d a b n] w fun e w' => e = .returned (.bool true) ∧ Below w.heap.size w w' := by
  cases hk : okH o d a b n with
  | false => exact same_not o d a b n hk n0 n1 w
  | true =>
    obtain ⟨⟨o0, o1⟩, ⟨d0, d1⟩, ⟨a0, a1⟩, ⟨b0, b1⟩⟩ := okH_bd hk
    obtain ⟨d, rfl⟩ := Int.eq_ofNat_of_zero_le d0
    obtain ⟨a, rfl⟩ := Int.eq_ofNat_of_zero_le a0
    obtain ⟨b, rfl⟩ := Int.eq_ofNat_of_zero_le b0
    obtain ⟨n, rfl⟩ := Int.eq_ofNat_of_zero_le n0
    exact same_ok o d a b n hk (by omega) w ht
end Go.Proofs.YthobedekeebadaaDoor

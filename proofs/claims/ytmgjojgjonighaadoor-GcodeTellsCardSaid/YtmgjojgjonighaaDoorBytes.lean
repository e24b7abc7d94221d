/-
  A SLICE OF BYTES THAT CAME IN, as a list of bytes.
-/
import Derived.Test.YtmgjojgjonighaaDoorGc6
import Derived.Test.YtmgjojgjonighaaDoorRow
namespace Go.Proofs.YtmgjojgjonighaaDoor
open Go.RowKit
theorem IsRow.bytes {w : World} {a : Option Addr} {len cap : Nat} {zs : List Int} (h : IsRow .u8 w a len cap zs) :
    len ≤ cap ∧ cap ≤ maxLen ∧ (a = none → cap = 0) ∧ ∃ l : List UInt8, l.length = len ∧ Rd w w.heap.size a (bv l) := by
  obtain ⟨h1, h2, h3, l, h4, h5, h6⟩ := h.rd
  refine ⟨h1, h2, h3, l.map byt, by simpa using h4, ?_⟩
  have e : bv (l.map byt) = l.map (Value.int .u8) := by
    unfold bv
    rw [List.map_map]
    apply List.map_congr_left
    intro n hn
    obtain ⟨a, b⟩ := u8_of_wf (h5 n hn)
    simp [byt_of n a b]
  rw [e]; exact h6

end Go.Proofs.YtmgjojgjonighaaDoor

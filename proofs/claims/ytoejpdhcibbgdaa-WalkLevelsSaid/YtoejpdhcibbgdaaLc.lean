/-
  ROWS OF BYTES AS STRINGS; innkeeperkeep's Cut and Sized: A CONTRACT EACH.
-/
import Derived.Test.YtoejpdhcibbgdaaRr
import Derived.Test.YtoejpdhcibbgdaaRow
import Derived.Laws.IdiomStrings
import Derived.Laws.BytesString
namespace Go.Proofs.Ytoejpdhcibbgdaa
open Go.RowKit
set_option linter.unusedSimpArgs false
set_option linter.unusedVariables false

def bv (l : List UInt8) : List Value := l.map fun b => .int .u8 (b.toNat : Int)
theorem conv_rd (w : World) (B : Nat) (A : Option Addr) (c : Nat) (l : List UInt8) (h : Rd w B A (bv l)) :
    (convert 29 9 (.slice A l.length c)).run Try.prog w = .ok (.string ⟨l.toArray⟩) w := by
  rcases List.eq_nil_or_concat l with rfl | ⟨l', b, rfl⟩
  · rcases A with _ | a
    · rw [run_convert_bytes_string w 29 9 5 none _ c Try.underlying29 Try.underlying5 Try.underlying9]
      rfl
    · exact run_convert_bytes_back w _ _ 5 a c [] Try.underlying29 Try.underlying5 Try.underlying9 (fun j hj => absurd hj (by simp))
  · obtain ⟨g, off, rfl, hg, hc⟩ := h (by simp [bv])
    refine run_convert_bytes_back w _ _ 5 _ c _ Try.underlying29 Try.underlying5 Try.underlying9 fun j hj => ?_
    have := hc j _ (by rw [bv, List.getElem?_map, List.getElem?_eq_getElem hj]; rfl)
    have hadd : (⟨g, off, none⟩ : Addr).add j = ⟨g, off + j, none⟩ := by unfold Addr.add; split <;> simp_all
    rw [hadd]; exact this
/-- bytes as a string -/
def u8L (L : List Int) : List UInt8 := L.map fun x => UInt8.ofNat x.toNat
def strL (L : List Int) : ByteArray := ⟨(u8L L).toArray⟩
theorem u8L_len (L : List Int) : (u8L L).length = L.length := by simp [u8L]
theorem bv_u8L {L : List Int} (h : ∀ x ∈ L, 0 ≤ x ∧ x < 256) : bv (u8L L) = ub L := by
  unfold bv u8L ub
  rw [List.map_map]
  refine List.map_congr_left fun x hx => ?_
  have := h x hx
  show Value.int .u8 ((UInt8.ofNat x.toNat).toNat : Int) = .int .u8 x
  have e : (UInt8.ofNat x.toNat).toNat = x.toNat := by simp; omega
  rw [e]; congr 1; omega
theorem conv_L {w : World} {B : Nat} {A : Option Addr} (L : List Int) (n c : Nat) (hn : L.length = n) (hL : ∀ x ∈ L, 0 ≤ x ∧ x < 256) (h : Rd w B A (ub L)) :
    (convert 29 9 (.slice A n c)).run Try.prog w = .ok (.string (strL L)) w := by
  have := conv_rd w B A c (u8L L) (by rw [bv_u8L hL]; exact h)
  rw [u8L_len, hn] at this
  exact this
def rowL (F : Nat → Int) (n : Nat) : List Int := (List.range n).map F
theorem rowL_len (F : Nat → Int) (n : Nat) : (rowL F n).length = n := by simp [rowL]
theorem rowL_mem {F : Nat → Int} {n : Nat} (h : ∀ j, j < n → 0 ≤ F j ∧ F j < 256) : ∀ x ∈ rowL F n, 0 ≤ x ∧ x < 256 := by
  intro x hx
  obtain ⟨j, hj, rfl⟩ := List.mem_map.1 hx
  exact h j (List.mem_range.1 hj)
theorem rowL_congr {F G : Nat → Int} {n : Nat} (h : ∀ j, j < n → F j = G j) : rowL F n = rowL G n := List.map_congr_left fun j hj => h j (List.mem_range.1 hj)
theorem rowL_get (F : Nat → Int) {n j : Nat} (h : j < n) : (rowL F n).getD j 0 = F j := by
  unfold rowL
  rw [List.getD_eq_getElem?_getD, range_get, if_pos h]; rfl
theorem conv_B {w : World} {g n : Nat} {F : Nat → Int} (h : IsB w g n F) (hF : ∀ j, j < n → 0 ≤ F j ∧ F j < 256) (c : Nat) :
    (convert 29 9 (.slice (some ⟨g, 0, none⟩) n c)).run Try.prog w = .ok (.string (strL (rowL F n))) w :=
  conv_L (rowL F n) n c (rowL_len F n) (rowL_mem hF) h.rd
/-! ### a copy into a row -/
theorem IsC.len {w : World} {g n : Nat} {t : TypeId} {V : Nat → Value} (h : IsC w g t n V) : ((List.range n).map V).length = n := by simp
theorem splice_row {α : Type} (V : Nat → α) (n off : Nat) (cs : List α) (d : α) (h : off + cs.length ≤ n) :
    splice ((List.range n).map V) off cs = (List.range n).map fun j => if off ≤ j ∧ j < off + cs.length then cs.getD (j - off) d else V j := by
  apply List.ext_getElem?
  intro j
  unfold splice
  rw [range_get]
  by_cases h1 : j < off
  · rw [List.getElem?_append_left (by simp; omega), List.getElem?_take, if_pos h1, range_get, if_pos (by omega), if_pos (by omega), if_neg (by omega)]
  · rw [List.getElem?_append_right (by simp; omega), List.length_take, List.length_map, List.length_range, show min off n = off by omega]
    by_cases h2 : j < off + cs.length
    · rw [List.getElem?_append_left (by omega), if_pos (by omega), if_pos (by omega), List.getD_eq_getElem?_getD, List.getElem?_eq_getElem (show j - off < cs.length by omega)]; rfl
    · rw [List.getElem?_append_right (by omega), List.getElem?_drop, show off + cs.length + (j - off - cs.length) = j by omega, range_get, if_neg (show ¬ (off ≤ j ∧ j < off + cs.length) by omega)]
/-! ### Cut, Sized -/
/-- L, brought to n bytes -/
def szF (L : List Int) (j : Nat) : Int := L.getD j 0
end Go.Proofs.Ytoejpdhcibbgdaa

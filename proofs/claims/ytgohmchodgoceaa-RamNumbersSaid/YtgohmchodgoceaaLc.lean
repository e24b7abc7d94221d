/-
  ROWS OF BYTES AS STRINGS; innkeeperkeep's Cut and Sized: A CONTRACT EACH.
-/
import Derived.Test.YtgohmchodgoceaaRr
import Derived.Test.YtgohmchodgoceaaRow
import Derived.Laws.IdiomStrings
import Derived.Laws.BytesString
namespace Go.Proofs.Ytgohmchodgoceaa
open Go.RowKit
set_option linter.unusedSimpArgs false
set_option linter.unusedVariables false

def bv (l : List UInt8) : List Value := l.map fun b => .int .u8 (b.toNat : Int)
theorem conv_rd (w : World) (B : Nat) (A : Option Addr) (c : Nat) (l : List UInt8) (h : Rd w B A (bv l)) :
    (convert 29 9 (.slice A l.length c)).run Try.prog w = .ok (.string ⟨l.toArray⟩) w := by
  rcases List.eq_nil_or_concat l with rfl | ⟨l', b, rfl⟩
  · rcases A with _ | a
    · rw [run_convert_bytes_string w 29 9 5 none _ c Try.underlying29 Try.underlying5 Try.underlying9]
      rfl
    · exact run_convert_bytes_back w _ _ 5 a c [] Try.underlying29 Try.underlying5 Try.underlying9 (fun j hj => absurd hj (by simp))
  · obtain ⟨g, off, rfl, hg, hc⟩ := h (by simp [bv])
    refine run_convert_bytes_back w _ _ 5 _ c _ Try.underlying29 Try.underlying5 Try.underlying9 fun j hj => ?_
    have := hc j _ (by rw [bv, List.getElem?_map, List.getElem?_eq_getElem hj]; rfl)
    have hadd : (⟨g, off, none⟩ : Addr).add j = ⟨g, off + j, none⟩ := by unfold Addr.add; split <;> simp_all
    rw [hadd]; exact this
/-- bytes as a string -/
def u8L (L : List Int) : List UInt8 := L.map fun x => UInt8.ofNat x.toNat
def strL (L : List Int) : ByteArray := ⟨(u8L L).toArray⟩
theorem u8L_len (L : List Int) : (u8L L).length = L.length := by simp [u8L]
theorem bv_u8L {L : List Int} (h : ∀ x ∈ L, 0 ≤ x ∧ x < 256) : bv (u8L L) = ub L := by
  unfold bv u8L ub
  rw [List.map_map]
  refine List.map_congr_left fun x hx => ?_
  have := h x hx
  show Value.int .u8 ((UInt8.ofNat x.toNat).toNat : Int) = .int .u8 x
  have e : (UInt8.ofNat x.toNat).toNat = x.toNat := by simp; omega
  rw [e]; congr 1; omega
theorem conv_L {w : World} {B : Nat} {A : Option Addr} (L : List Int) (n c : Nat) (hn : L.length = n) (hL : ∀ x ∈ L, 0 ≤ x ∧ x < 256) (h : Rd w B A (ub L)) :
    (convert 29 9 (.slice A n c)).run Try.prog w = .ok (.string (strL L)) w := by
  have := conv_rd w B A c (u8L L) (by rw [bv_u8L hL]; exact h)
  rw [u8L_len, hn] at this
  exact this
def rowL (F : Nat → Int) (n : Nat) : List Int := (List.range n).map F
theorem rowL_len (F : Nat → Int) (n : Nat) : (rowL F n).length = n := by simp [rowL]
theorem rowL_mem {F : Nat → Int} {n : Nat} (h : ∀ j, j < n → 0 ≤ F j ∧ F j < 256) : ∀ x ∈ rowL F n, 0 ≤ x ∧ x < 256 := by
  intro x hx
  obtain ⟨j, hj, rfl⟩ := List.mem_map.1 hx
  exact h j (List.mem_range.1 hj)
theorem rowL_congr {F G : Nat → Int} {n : Nat} (h : ∀ j, j < n → F j = G j) : rowL F n = rowL G n := List.map_congr_left fun j hj => h j (List.mem_range.1 hj)
theorem rowL_get (F : Nat → Int) {n j : Nat} (h : j < n) : (rowL F n).getD j 0 = F j := by
  unfold rowL
  rw [List.getD_eq_getElem?_getD, range_get, if_pos h]; rfl
theorem conv_B {w : World} {g n : Nat} {F : Nat → Int} (h : IsB w g n F) (hF : ∀ j, j < n → 0 ≤ F j ∧ F j < 256) (c : Nat) :
    (convert 29 9 (.slice (some ⟨g, 0, none⟩) n c)).run Try.prog w = .ok (.string (strL (rowL F n))) w :=
  conv_L (rowL F n) n c (rowL_len F n) (rowL_mem hF) h.rd
/-! ### a copy into a row -/
theorem IsC.len {w : World} {g n : Nat} {t : TypeId} {V : Nat → Value} (h : IsC w g t n V) : ((List.range n).map V).length = n := by simp
theorem splice_row {α : Type} (V : Nat → α) (n off : Nat) (cs : List α) (d : α) (h : off + cs.length ≤ n) :
    splice ((List.range n).map V) off cs = (List.range n).map fun j => if off ≤ j ∧ j < off + cs.length then cs.getD (j - off) d else V j := by
  apply List.ext_getElem?
  intro j
  unfold splice
  rw [range_get]
  by_cases h1 : j < off
  · rw [List.getElem?_append_left (by simp; omega), List.getElem?_take, if_pos h1, range_get, if_pos (by omega), if_pos (by omega), if_neg (by omega)]
  · rw [List.getElem?_append_right (by simp; omega), List.length_take, List.length_map, List.length_range, show min off n = off by omega]
    by_cases h2 : j < off + cs.length
    · rw [List.getElem?_append_left (by omega), if_pos (by omega), if_pos (by omega), List.getD_eq_getElem?_getD, List.getElem?_eq_getElem (show j - off < cs.length by omega)]; rfl
    · rw [List.getElem?_append_right (by omega), List.getElem?_drop, show off + cs.length + (j - off - cs.length) = j by omega, range_get, if_neg (show ¬ (off ≤ j ∧ j < off + cs.length) by omega)]
/-! ### Cut, Sized -/
theorem cut_any (A : Option Addr) (len c n : Nat) (hl : len ≤ c) (hc : c ≤ maxLen) (hA : A = none → c = 0) (w : World) :
    Calls Try.prog 17 #[.slice A len c, .int .i64 n] w fun e w' => e = .returned (.slice A (min len n) c) ∧ w = w' := by
  unfold maxLen at hc
  by_cases h : n < len
  · have e : min len n = n := by omega
    rw [e]
    rcases A with _ | a
    · have := hA rfl; omega
    · clear hA e
      go_enter Try.func17, Try.ntmps17
      go_wp2
      go_ret
      exact ⟨rfl, rfl⟩
  · have e : min len n = len := by omega
    rw [e]
    clear hA e
    go_enter Try.func17, Try.ntmps17
    go_wp2
    go_ret
    exact ⟨rfl, rfl⟩
/-- L, brought to n bytes -/
def szF (L : List Int) (j : Nat) : Int := L.getD j 0
set_option maxRecDepth 100000 in
theorem sized_any (A : Option Addr) (len c n : Nat) (L : List Int) (hlen : len = L.length) (hn : n ≤ 4096) (w : World) (hR : Rd w w.heap.size A (ub L)) :
    Calls Try.prog 18 #[.slice A len c, .int .i64 n] w (NewB (szF L) n (fun A => .slice A n n) w) := by
  have hmk := make_u8 .i64 n (by omega)
  have hnb := new_u8 n w
  have hb : Below w.heap.size w (w.alloc (.cells (madeCells #[.int .u8 0] n) 5)) := (Below.refl _ _).alloc (Nat.le_refl _) _
  have hsz1 : (Try.prog.info? 5).map (·.size) = some 1 := by kernel_rfl
  have hll : ((ub L).take n).length = Nat.min len n := by rw [List.length_take, ub_len, hlen]; exact Nat.min_comm _ _
  have hps : 0 < ((ub L).take n).length → (some ⟨w.heap.size, 0, none⟩ : Option Addr) = some ⟨w.heap.size, 0, none⟩ ∧ ∃ ad, A = some ad ∧ ∀ j v, ((ub L).take n)[j]? = some v → (w.alloc (.cells (madeCells #[.int .u8 0] n) 5)).cell? (ad.add j) = some v := fun hp => by
    obtain ⟨g, off, rfl, hg, hc⟩ := hR.take n hp
    refine ⟨rfl, _, rfl, fun j v hv => ?_⟩
    have hadd : (⟨g, off, none⟩ : Addr).add j = ⟨g, off + j, none⟩ := by unfold Addr.add; split <;> simp_all
    rw [hadd]
    exact (hb.cell (p := ⟨g, off + j, none⟩) hg).trans (hc j v hv)
  have hone : ∀ v ∈ (ub L).take n, v.oneCell' = true := fun v hv => by
    have hv := List.mem_of_mem_take hv
    simp only [ub, List.mem_map] at hv
    obtain ⟨x, _, rfl⟩ := hv; rfl
  have HPS := Lib.hid hps
  have HNB := Lib.hid hnb
  have HB := Lib.hid hb
  have HLL := Lib.hid hll
  have HLN := Lib.hid hlen
  generalize madeCells #[Value.int .u8 0] n = Z at *
  clear hps hnb hb hll hR hlen
  unfold NewB
  go_enter Try.func18, Try.ntmps18
  go_wp2_with (refine wpList_copy_splice rfl (.tmp 8) (.tmp 9) 29 29 rfl 5 Try.underlying29 hsz1 (some ⟨w.heap.size, 0, none⟩) A n n len c rfl rfl w.heap.size 0 ((List.range n).map fun _ => Value.int .u8 0) 5 HNB.out ((ub L).take n) HLL.out HPS.out (by rw [HLL.out, List.length_map, List.length_range, Nat.zero_add]; exact Nat.min_le_right _ _) hone w.heap.size w HB.out (Nat.le_refl _) ?_; intro w2 HG2 hB2)
  go_ret
  refine ⟨w.heap.size, rfl, Nat.le_refl _, ?_, hB2⟩
  have hg := HG2.out
  rw [splice_row _ n 0 _ (.int .u8 0) (by rw [HLL.out, Nat.zero_add]; exact Nat.min_le_right _ _)] at hg
  refine IsC.cast (V := fun j => if 0 ≤ j ∧ j < 0 + ((ub L).take n).length then ((ub L).take n).getD (j - 0) (.int .u8 0) else .int .u8 0) hg fun j hj => ?_
  have hl3 := HLN.out
  have hl2 : ((ub L).take n).length = min L.length n := by rw [HLL.out, hl3]
  rw [Nat.sub_zero]
  by_cases h : j < L.length
  · rw [if_pos ⟨by omega, by rw [hl2]; omega⟩, List.getD_eq_getElem?_getD, List.getElem?_take, if_pos hj, ub_get h]; rfl
  · rw [if_neg (by rw [hl2]; omega)]
    unfold szF
    rw [List.getD_eq_getElem?_getD, List.getElem?_eq_none (by omega)]; rfl
end Go.Proofs.Ytgohmchodgoceaa

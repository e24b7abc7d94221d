/-
  WORDS OF MEMORY for the contracts: a struct that a call boxed for itself. It imports nothing of the program.
-/
import Derived.Below
import Derived.Lib.Hide
import Derived.Deep.Draws
namespace Go.Proofs.Ytblfplhiamcpoaa
open Go.RowKit

/-- what a region keeps of a struct of two fields in block B, made since w -/
theorem box2_keep {B : Nat} {x y : Value} {w w1 w2 : World} (h : w1.cell? ⟨B, 0, none⟩ = some x ∧ w1.cell? ⟨B, 1, none⟩ = some y ∧ B < w1.heap.size ∧ Below B w w1) (hb : Below w1.heap.size w1 w2) :
    w2.cell? ⟨B, 0, none⟩ = some x ∧ w2.cell? ⟨B, 1, none⟩ = some y ∧ B < w2.heap.size ∧ Below B w w2 :=
  ⟨(hb.cell (p := ⟨B, 0, none⟩) h.2.2.1).trans h.1, (hb.cell (p := ⟨B, 1, none⟩) h.2.2.1).trans h.2.1, Nat.lt_of_lt_of_le h.2.2.1 hb.size, h.2.2.2.trans (hb.mono (Nat.le_of_lt h.2.2.1))⟩
theorem box2_new (w : World) (x y : Value) (T : TypeId) :
    (w.alloc (.cells #[x, y] T)).cell? ⟨w.heap.size, 0, none⟩ = some x ∧ (w.alloc (.cells #[x, y] T)).cell? ⟨w.heap.size, 1, none⟩ = some y ∧ w.heap.size < (w.alloc (.cells #[x, y] T)).heap.size ∧ Below w.heap.size w (w.alloc (.cells #[x, y] T)) :=
  ⟨by rw [World.cell?_alloc_new]; rfl, by rw [World.cell?_alloc_new]; rfl, by simp, (Below.refl _ _).alloc (Nat.le_refl _) _⟩

/-- block g holds just the cells cs of type t, and may be written -/
def Blk (w : World) (g : Nat) (t : TypeId) (cs : Array Value) : Prop := w.heap[g]? = some (.cells cs t (0, 0))
section
variable {w w' : World} {g : Nat} {t : TypeId} {cs : Array Value}
theorem Blk.lt (h : Blk w g t cs) : g < w.heap.size := (Array.getElem?_eq_some_iff.1 h).1
theorem Blk.cell (h : Blk w g t cs) (i : Nat) : w.cell? ⟨g, i, none⟩ = cs[i]? := cell_of_row w g i cs t (0, 0) h
theorem Blk.frozen (h : Blk w g t cs) (i : Nat) : w.frozen? ⟨g, i, none⟩ = false := by
  unfold Blk at h; simp [World.frozen?, h]
theorem Blk.new (w : World) (t : TypeId) (cs : Array Value) : Blk (w.alloc (.cells cs t)) w.heap.size t cs := heap_alloc_new w _
theorem Blk.alloc (h : Blk w g t cs) (o : Obj) : Blk (w.alloc o) g t cs := (Below.heap_alloc w o g h.lt).trans h
theorem Blk.put (h : Blk w g t cs) (i : Nat) (u : Value) : Blk (w.setCell ⟨g, i, none⟩ u) g t (cs.setIfInBounds i u) := by
  unfold Blk at h ⊢; simp [World.setCell, Array.getElem?_modify, h]
theorem Blk.far (h : Blk w g t cs) {p : Addr} (hp : g ≠ p.block) (u : Value) : Blk (w.setCell p u) g t cs := (Below.heap_setCell w p u g hp).trans h
theorem Blk.below {B : Nat} (h : Blk w g t cs) (hb : Below B w w') (hg : g < B) : Blk w' g t cs := (hb.block g hg).trans h
end
theorem Below_drewN {B : Nat} {a w : World} (h : Below B a w) (n : Nat) : Below B a (w.drewN n) := ⟨h.os, h.tape, h.output, h.size, h.block⟩
/-- what a region keeps of two structs of two fields, in blocks B and B + 1 -/
theorem box22_keep {B C : Nat} {x y x' y' : Value} {w w1 w2 : World} (h : w1.cell? ⟨B, 0, none⟩ = some x ∧ w1.cell? ⟨B, 1, none⟩ = some y ∧ w1.cell? ⟨B + 1, 0, none⟩ = some x' ∧ w1.cell? ⟨B + 1, 1, none⟩ = some y' ∧ B + 1 < w1.heap.size ∧ C ≤ w1.heap.size ∧ Below C w w1) (hb : Below w1.heap.size w1 w2) :
    w2.cell? ⟨B, 0, none⟩ = some x ∧ w2.cell? ⟨B, 1, none⟩ = some y ∧ w2.cell? ⟨B + 1, 0, none⟩ = some x' ∧ w2.cell? ⟨B + 1, 1, none⟩ = some y' ∧ B + 1 < w2.heap.size ∧ C ≤ w2.heap.size ∧ Below C w w2 :=
  ⟨(hb.cell (p := ⟨B, 0, none⟩) (Nat.lt_of_succ_lt h.2.2.2.2.1)).trans h.1, (hb.cell (p := ⟨B, 1, none⟩) (Nat.lt_of_succ_lt h.2.2.2.2.1)).trans h.2.1,
    (hb.cell (p := ⟨B + 1, 0, none⟩) h.2.2.2.2.1).trans h.2.2.1, (hb.cell (p := ⟨B + 1, 1, none⟩) h.2.2.2.2.1).trans h.2.2.2.1, Nat.lt_of_lt_of_le h.2.2.2.2.1 hb.size, Nat.le_trans h.2.2.2.2.2.1 hb.size, h.2.2.2.2.2.2.trans (hb.mono h.2.2.2.2.2.1)⟩
end Go.Proofs.Ytblfplhiamcpoaa

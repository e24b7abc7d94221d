/-
  THE FRAME OF A CALL THAT WRITES TWO BLOCKS. It imports nothing of the program.
-/
import Derived.Test.YtblfplhiamcpoaaMem
import Derived.Test.YtblfplhiamcpoaaApp
import Derived.Deep.MidRow
namespace Go.Proofs.Ytblfplhiamcpoaa
open Go.RowKit
set_option linter.unusedSimpArgs false
set_option linter.unusedVariables false

/-- nothing has turned but what lies in blocks g and h, and new blocks -/
structure Turn (g h : Nat) (w w' : World) : Prop where
  os : w'.os = w.os
  tape : w'.tape = w.tape
  output : w'.output = w.output
  size : w.heap.size ≤ w'.heap.size
  block : ∀ k, k < w.heap.size → k ≠ g → k ≠ h → w'.heap[k]? = w.heap[k]?

section
variable {B : Nat} {w w' w'' : World} {g h : Nat}
theorem Turn.refl (g h : Nat) (w : World) : Turn g h w w := ⟨rfl, rfl, rfl, Nat.le_refl _, fun _ _ _ _ => rfl⟩
theorem Turn.trans (x : Turn g h w w') (y : Turn g h w' w'') : Turn g h w w'' :=
  ⟨y.os.trans x.os, y.tape.trans x.tape, y.output.trans x.output, Nat.le_trans x.size y.size, fun i hi h1 h2 => (y.block i (Nat.lt_of_lt_of_le hi x.size) h1 h2).trans (x.block i hi h1 h2)⟩
theorem Turn.of_below (hb : Below w.heap.size w w') : Turn g h w w' := ⟨hb.os, hb.tape, hb.output, hb.size, fun i hi _ _ => hb.block i hi⟩
theorem Turn.setG (x : Turn g h w w') (i : Nat) (u : Value) : Turn g h w (w'.setCell ⟨g, i, none⟩ u) :=
  ⟨x.os, x.tape, x.output, by simpa using x.size, fun j hj h1 h2 => (Below.heap_setCell w' ⟨g, i, none⟩ u j h1).trans (x.block j hj h1 h2)⟩
theorem Turn.setH (x : Turn g h w w') (i : Nat) (u : Value) : Turn g h w (w'.setCell ⟨h, i, none⟩ u) :=
  ⟨x.os, x.tape, x.output, by simpa using x.size, fun j hj h1 h2 => (Below.heap_setCell w' ⟨h, i, none⟩ u j h2).trans (x.block j hj h1 h2)⟩
theorem Turn.setsG : ∀ (vs : List Value) (o : Nat) {w' : World}, Turn g h w w' → Turn g h w (w'.setCells g o vs)
  | [], _, _, x => x
  | v :: r, o, _, x => by rw [World.setCells]; exact Turn.setsG r (o + 1) (x.setG o v)
theorem Turn.swap (x : Turn g h w w') : Turn h g w w' := ⟨x.os, x.tape, x.output, x.size, fun j hj h1 h2 => x.block j hj h2 h1⟩
theorem Turn.wide (x : Turn g g w w') : Turn g h w w' := ⟨x.os, x.tape, x.output, x.size, fun j hj h1 _ => x.block j hj h1 h1⟩
theorem Turn.wide' (x : Turn h h w w') : Turn g h w w' := ⟨x.os, x.tape, x.output, x.size, fun j hj _ h2 => x.block j hj h2 h2⟩
/-- what lies above B is new to what was before: the frame of a call -/
theorem Turn.below {B : Nat} {w0 : World} (x : Turn g h w w') (hg : B ≤ g) (hh : B ≤ h) (hb : Below B w0 w) (hB : B ≤ w.heap.size) : Below B w0 w' :=
  ⟨x.os.trans hb.os, x.tape.trans hb.tape, x.output.trans hb.output, Nat.le_trans hb.size x.size, fun i hi => (x.block i (by omega) (by omega) (by omega)).trans (hb.block i hi)⟩
theorem Turn.cell (x : Turn g h w w') {p : Addr} (hp : p.block < w.heap.size) (h1 : p.block ≠ g) (h2 : p.block ≠ h) : w'.cell? p = w.cell? p := by
  simp only [World.cell?, x.block _ hp h1 h2]
theorem Turn.frozen (x : Turn g h w w') {p : Addr} (hp : p.block < w.heap.size) (h1 : p.block ≠ g) (h2 : p.block ≠ h) : w'.frozen? p = w.frozen? p := by
  simp only [World.frozen?, x.block _ hp h1 h2]
end
end Go.Proofs.Ytblfplhiamcpoaa

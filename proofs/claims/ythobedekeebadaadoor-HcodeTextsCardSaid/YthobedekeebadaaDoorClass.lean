/-
  A REGION THAT DRAWS ITS ORDER, whose operations only read and whose callees keep a class of worlds: walked once in the order of the text. It imports nothing of the program.
-/
import Derived.Deep.QuietTactic
import Derived.BigQuiet
import Derived.Below
namespace Go.Proofs.YthobedekeebadaaDoor
open Go.RowKit

theorem wp_region_class {P : Program} {id : Nat} {Q : Exit → Act → World → Prop} {a : Act} {w : World} {l : List Oper} {ι : Type} (W : ι → World) (hm : P.follows .mixedOrders = true) (hB : Region.lexB .any l.toArray = true) (hC : ∃ x, w.drew = W x)
    (h : wpQuiet P l.toArray (fun w' => ∃ x : ι, w' = W x) (fun a' => ∀ w', (∃ x : ι, w' = W x) → Q .normal a' w') l a) : (Code.region id l.toArray true).wp P Q a w :=
  wp_region_quiet (C := fun w' => ∃ x : ι, w' = W x) hm hB hC (by simpa using h)
/-- the worlds of which S holds, under an index -/
theorem class_of (S : World → Prop) (w : World) (h : S w) : ∃ (ι : Type) (W : ι → World), Nonempty ι ∧ (∀ x, S (W x)) ∧ (∀ w', S w' → ∃ x, w' = W x) :=
  ⟨{w' : World // S w'}, Subtype.val, ⟨⟨w, h⟩⟩, fun x => x.2, fun w' hw => ⟨⟨w', hw⟩, rfl⟩⟩
end Go.Proofs.YthobedekeebadaaDoor

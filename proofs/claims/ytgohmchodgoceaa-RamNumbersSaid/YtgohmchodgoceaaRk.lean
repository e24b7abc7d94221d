/-
  A REGION THAT DRAWS, with operations that make memory, each by itself and one behind it that takes what was made: in whatever order they come, one end. It imports nothing of the program.
-/
import Derived.OrdersHeld
import Derived.Deep.RegionHeld
import Derived.Below
namespace Go.Proofs.Ytgohmchodgoceaa
open Go Go.RowKit
set_option linter.unusedSimpArgs false
set_option linter.unusedVariables false

/-- what is done to some of I -/
def foldB {α : Type} (f : α → Nat → α) (b : Nat → Bool) : List Nat → α → α
  | [], x => x
  | i :: r, x => foldB f b r (if b i = true then f x i else x)
theorem foldB_congr {α : Type} {f : α → Nat → α} {b b' : Nat → Bool} : ∀ (I : List Nat) (x : α), (∀ i ∈ I, b i = b' i) → foldB f b I x = foldB f b' I x
  | [], _, _ => rfl
  | i :: r, x, h => by
    unfold foldB
    rw [h i (by simp)]
    exact foldB_congr r _ (fun j hj => h j (by simp [hj]))
theorem filter_one (b : Nat → Bool) (i : Nat) (hb : b i = false) : ∀ (I : List Nat), I.Nodup → i ∈ I → (I.filter (fun j => !b j)).length = (I.filter (fun j => !(if j = i then true else b j))).length + 1
  | [], _, h => by cases h
  | k :: r, hI, hiI => by
    have hn2 := List.nodup_cons.1 hI
    rw [List.filter_cons, List.filter_cons]
    by_cases e : k = i
    · subst e
      have hh : (r.filter (fun j => !b j)) = (r.filter (fun j => !(if j = k then true else b j))) := List.filter_congr fun j hj => by rw [if_neg (fun (e : j = k) => hn2.1 (e ▸ hj))]
      simp [hb, hh]
    · have hir : i ∈ r := by
        rcases List.mem_cons.1 hiI with h | h
        · exact absurd h.symm e
        · exact h
      have h := filter_one b i hb r hn2.2 hir
      rw [if_neg e]
      cases hbk : b k
      · simp only [Bool.not_false, if_true, List.length_cons]; omega
      · simp only [Bool.not_true, Bool.false_eq_true, if_false]; exact h
/-- whatever comes first -/
theorem wpAnyH_units {P : Program} {md : Region.Mode} {ops : Array Oper} {Q : Exit → Act → World → Prop} {S : World → Prop} (I : List Nat) (hI : I.Nodup) (d : Nat → Tmp)
    (fL : Array Bool → Nat → Array Bool) (fA : (Nat → Value) → Act → Nat → Act)
    (Fact : Nat → Value → World → Prop) (hS : ∀ w w', S w → Below w.heap.size w w' → S w') (hkeep : ∀ i v w w', Fact i v w → Below w.heap.size w w' → Fact i v w')
    (hmk : ∀ i ∈ I, ∀ (a : Act) (w : World) (K : Act → World → Prop), S w → (∀ v w', Fact i v w' → Below w.heap.size w w' → K (a.put (some (d i)) v) w') → wpOp P ops Q i K a w)
    (a0 : Act) (l0 : Array Bool) (fuel : Nat)
    (hunit : ∀ i ∈ I, ∀ (b : Nat → Bool) (val : Nat → Value) (v : Value) (w : World) (m : Nat), b i = false → Fact i v w → S w →
      wpAnyH P md ops Q S m (foldB fL (fun j => if j = i then true else b j) I l0) (foldB (fA (fun j => if j = i then v else val j)) (fun j => if j = i then true else b j) I a0) w →
      wpAnyH P md ops Q S (m + 1) ((foldB fL b I l0).setIfInBounds i true) ((foldB (fA val) b I a0).put (some (d i)) v) w)
    (hready : ∀ b : Nat → Bool, I.filter (fun i => !b i) ≠ [] → Region.ready md ops (foldB fL b I l0) = I.filter (fun i => !b i))
    (hfin : ∀ (val : Nat → Value) (w : World), S w → (∀ i ∈ I, Fact i (val i) w) → wpAnyH P md ops Q S fuel (foldB fL (fun _ => true) I l0) (foldB (fA val) (fun _ => true) I a0) w) :
    ∀ (n : Nat) (b : Nat → Bool) (val : Nat → Value) (w : World), (I.filter (fun i => !b i)).length = n → S w → (∀ i ∈ I, b i = true → Fact i (val i) w) →
      wpAnyH P md ops Q S (fuel + 2 * n) (foldB fL b I l0) (foldB (fA val) b I a0) w
  | 0, b, val, w, hn, hs, hf => by
    have hall : ∀ i ∈ I, b i = true := fun i hi => by
      cases h : b i
      · have : i ∈ I.filter (fun i => !b i) := List.mem_filter.2 ⟨hi, by simp [h]⟩
        rw [List.eq_nil_of_length_eq_zero hn] at this
        cases this
      · rfl
    have h := hfin val w hs (fun i hi => hf i hi (hall i hi))
    rw [foldB_congr I l0 hall, foldB_congr (f := fA val) I a0 hall]
    exact h
  | n + 1, b, val, w, hn, hs, hf => by
    have hr := hready b (fun e => by rw [e] at hn; cases hn)
    refine ⟨fun h => ?_, fun i hi => ?_⟩
    · rw [hr] at h
      rw [h] at hn
      cases hn
    · rw [hr] at hi
      obtain ⟨hiI, hb⟩ := List.mem_filter.1 hi
      have hb : b i = false := by simpa using hb
      refine hmk i hiI _ w _ hs fun v w' hv hw => ⟨hS w w' hs hw, ?_⟩
      have hc := filter_one b i hb I hI hiI
      exact hunit i hiI b val v w' (fuel + 2 * n) hb hv (hS w w' hs hw) (wpAnyH_units I hI d fL fA Fact hS hkeep hmk a0 l0 fuel hunit hready hfin n (fun j => if j = i then true else b j) (fun j => if j = i then v else val j) w' (by omega) (hS w w' hs hw) (fun j hj hbj => by
          by_cases e : j = i
          · subst e; simp only [if_true]; exact hv
          · simp only [if_neg e] at hbj ⊢; exact hkeep _ _ _ _ (hf j hj hbj) hw))
end Go.Proofs.Ytgohmchodgoceaa

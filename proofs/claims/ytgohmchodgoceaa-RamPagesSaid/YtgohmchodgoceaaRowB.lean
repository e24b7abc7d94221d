/-
  SLICES OF BYTES THAT CAME IN, in a slice.
-/
import Derived.Test.YtgohmchodgoceaaRow
import Derived.Test.YtgohmchodgoceaaProg
import Derived.Deep.Slices
import Derived.ProofKit
import Derived.OpenShut
import Derived.Lib.SmallJoins
namespace Go.Proofs.Ytgohmchodgoceaa
open Go.ChangeShapes Go.WideShapes Go.RowKit Go.Deep
set_option linter.unusedSimpArgs false
set_option linter.unusedVariables false

/-- a slice that came in -/
structure Ab where
  A : Option Addr
  len : Nat
  cap : Nat
  zs : List Int
def Ab.cs (q : Ab) : List Value := [.slice q.A q.len q.cap]
/-- its fields fit their kinds -/
structure Ab.In (w : World) (q : Ab) : Prop where
  l : IsRow .u8 w q.A q.len q.cap q.zs
/-- the slice leads to these calls -/
def RowB (w : World) (A : Option Addr) (len cap : Nat) (Q : List Ab) : Prop :=
  Q.length = len ∧ len ≤ cap ∧ cap ≤ maxLen ∧ (A = none → cap = 0) ∧ (0 < Q.length → ∃ b off, A = some ⟨b, off, none⟩ ∧ b < w.heap.size ∧ ∀ (i : Nat) (h : i < Q.length) (j : Nat) (u : Value), (Q[i]).cs[j]? = some u → w.cell? ⟨b, off + i * 1 + j, none⟩ = some u) ∧ ∀ q ∈ Q, q.In w
theorem cells_ab : Try.prog.cellsOf 29 = 1 := by kernel_rfl
theorem cells_abu : Try.prog.cellsOf 5 = 1 := by kernel_rfl
theorem ab_of {H : Type} {enc : TypeId × Value → H} {w : World} {fuel : Nat} {c : Value} {x : DataW H × List MemPlace} (h : DataW.trod enc Try.prog w 0 (fun _ => true) true fuel 29 [c] = some x) :
    ∃ q : Ab, [c] = q.cs ∧ q.In w := by
  rcases open_ints Try.underlying29 Try.underlying5 cells_abu h with ⟨hcs, _⟩ | ⟨a, l, c', zs, hcs, _, hl', hm, hz, _, hcell, hwz⟩
  · exact ⟨⟨none, 0, 0, []⟩, hcs, ⟨.inl ⟨rfl, rfl, rfl, rfl⟩⟩⟩
  · exact ⟨⟨some a, l, c', zs⟩, hcs, ⟨.inr ⟨a, rfl, hl', hm, by simpa using hz, hcell, hwz⟩⟩⟩
theorem rowB_of {H : Type} {enc : TypeId × Value → H} {w : World} {a0 : Option Addr} {len0 cap0 : Nat} {d : DataW H} {p : List MemPlace}
    (h : DataW.Trod enc Try.prog w 0 (fun _ => true) true 58 (.slice a0 len0 cap0) d p) : ∃ Q, RowB w a0 len0 cap0 Q := by
  obtain ⟨fuel, hf⟩ := h
  rcases open_slice Try.underlying58 hf with ⟨hcs, _⟩ | ⟨a, len, cap, m, n, D, Pl, hcs, _, hl, hm, hmm, _, hx⟩
  · simp [Value.cells] at hcs
    obtain ⟨rfl, rfl, rfl⟩ := hcs
    exact ⟨[], rfl, Nat.le_refl _, by unfold maxLen; omega, fun _ => rfl, fun hn => absurd hn (by simp), by simp⟩
  · simp [Value.cells] at hcs
    obtain ⟨rfl, rfl, rfl⟩ := hcs
    simp only [if_true] at hmm
    subst hmm
    have key : ∀ i, i < m → ∃ q : Ab, q.In w ∧ w.cells? 0 (a.add (i * 1)) 1 = some q.cs := fun i hi => by
      obtain ⟨cs', h1, h2⟩ := hx i hi
      rw [cells_ab] at h1
      obtain ⟨_, hlc, _⟩ := World.cells?_some h1
      match cs', hlc, h1, h2 with
      | [c], _, h1, h2 =>
        obtain ⟨q, hq1, hq⟩ := ab_of h2
        rw [hq1] at h1
        exact ⟨q, hq, h1⟩
    obtain ⟨Q, hQ⟩ : ∃ Q : Nat → Ab, ∀ i, i < m → (Q i).In w ∧ w.cells? 0 (a.add (i * 1)) 1 = some (Q i).cs := by
      haveI : Inhabited Ab := ⟨⟨none, 0, 0, []⟩⟩
      exact choose_lt key
    refine ⟨(List.range len0).map Q, by simp, hl, hm, by simp, fun hn => ?_, fun p hp => ?_⟩
    · have h0 : 0 < len0 := by simpa using hn
      have cell : ∀ i, i < len0 → ∀ j, j < 1 → ∀ u, (Q i).cs[j]? = some u → w.cell? ((a.add (i * 1)).add j) = some u := fun i hi j hj u hu => by
        obtain ⟨_, hlen, hc⟩ := World.cells?_some (hQ i (by omega)).2
        have := hc j hj
        rw [hu] at this
        exact this
      obtain ⟨b, off, spot⟩ := a
      have c0 := cell 0 h0 0 (by omega) _ rfl
      have hspot : spot = none := by
        have := World.cell?_spot c0
        simpa [Addr.add] using this
      subst hspot
      have hadd : ∀ j, (⟨b, off, none⟩ : Addr).add j = ⟨b, off + j, none⟩ := fun j => by unfold Addr.add; split <;> simp_all
      refine ⟨b, off, rfl, World.block_lt_of_cell? w _ c0, fun i hi j u hu => ?_⟩
      have hi' : i < len0 := by simpa using hi
      have e : ((List.range len0).map Q)[i] = Q i := by simp
      rw [e] at hu
      have hj : j < 1 := by
        have := (List.getElem?_eq_some_iff.1 hu).1
        simpa [Ab.cs] using this
      have := cell i hi' j hj u hu
      rw [hadd, show (⟨b, off + i * 1, none⟩ : Addr).add j = ⟨b, off + i * 1 + j, none⟩ by unfold Addr.add; split <;> simp_all] at this
      exact this
    · obtain ⟨i, hi, rfl⟩ := List.mem_map.1 hp
      exact (hQ i (by have := List.mem_range.1 hi; omega)).1
end Go.Proofs.Ytgohmchodgoceaa

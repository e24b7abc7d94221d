/-
  CALLS (law 9's Ask) THAT CAME IN, in a slice: five numbers and a truth each.
-/
import Derived.Test.YtblfplhiamcpoaaRow
import Derived.Test.YtblfplhiamcpoaaProg
import Derived.Deep.Slices
import Derived.ProofKit
import Derived.OpenShut
import Derived.Lib.SmallJoins
namespace Go.Proofs.Ytblfplhiamcpoaa
open Go.ChangeShapes Go.WideShapes Go.RowKit Go.Deep
set_option linter.unusedSimpArgs false
set_option linter.unusedVariables false

/-- a call that came in -/
structure Av where
  k : Int
  hw : Int
  va : Int
  p : Int
  b : Int
  s : Bool
def Av.cs (q : Av) : List Value := [.int .i64 q.k, .int .i64 q.hw, .int .u32 q.va, .int .u32 q.p, .int .u32 q.b, .bool q.s]
/-- its fields fit their kinds -/
structure Av.In (q : Av) : Prop where
  k : (Lit.int .i64 q.k).wf = true
  hw : (Lit.int .i64 q.hw).wf = true
  va : (Lit.int .u32 q.va).wf = true
  p : (Lit.int .u32 q.p).wf = true
  b : (Lit.int .u32 q.b).wf = true
/-- the slice leads to these entries -/
def RowT (w : World) (A : Option Addr) (len cap : Nat) (Q : List Av) : Prop :=
  Q.length = len ∧ len ≤ cap ∧ cap ≤ maxLen ∧ (A = none → cap = 0) ∧ (0 < Q.length → ∃ b off, A = some ⟨b, off, none⟩ ∧ b < w.heap.size ∧ ∀ (i : Nat) (h : i < Q.length) (j : Nat) (u : Value), (Q[i]).cs[j]? = some u → w.cell? ⟨b, off + i * 6 + j, none⟩ = some u) ∧ ∀ q ∈ Q, q.In
theorem cells_ask9 : Try.prog.cellsOf 28 = 6 := by kernel_rfl
theorem cells_int : Try.prog.cellsOf 3 = 1 := by kernel_rfl
theorem cells_u32 : Try.prog.cellsOf 22 = 1 := by kernel_rfl
theorem cells_bool : Try.prog.cellsOf 4 = 1 := by kernel_rfl
set_option maxRecDepth 10000 in
theorem ask9_of {H : Type} {enc : TypeId × Value → H} {w : World} {fuel : Nat} {cs : List Value} {x : DataW H × List MemPlace} (h : DataW.trod enc Try.prog w 0 (fun _ => true) true fuel 28 cs = some x) :
    ∃ q : Av, cs = q.cs ∧ q.In := by
  obtain ⟨xs, n, _, rfl, hl, hlen, hf⟩ := DataW.trod_struct Try.underlying28 h
  rw [cells_ask9] at hl
  have key : ∀ (i : Nat) (f : TypeId) (k : IntKind) (c : Value), i < xs.length → DataW.trod enc Try.prog w 0 (fun _ => true) true n f [c] = xs[i]? → Try.prog.underlying f = some (.int k) → ∃ z : Int, c = .int k z ∧ (Lit.int k z).wf = true := by
    intro i f k c hi h1 h2
    rw [List.getElem?_eq_getElem hi] at h1
    obtain ⟨z, hc, _, hw⟩ := DataW.trod_int h2 h1
    exact ⟨z, by simpa using hc, hw⟩
  match cs, hl with
  | [c0, c1, c2, c3, c4, c5], _ =>
    have h0 : DataW.trod enc Try.prog w 0 (fun _ => true) true n 3 (([c0, c1, c2, c3, c4, c5].drop 0).take (Try.prog.cellsOf 3)) = xs[0]? := hf 0 _ rfl
    have h1 : DataW.trod enc Try.prog w 0 (fun _ => true) true n 3 (([c0, c1, c2, c3, c4, c5].drop 1).take (Try.prog.cellsOf 3)) = xs[1]? := hf 1 _ rfl
    have h2 : DataW.trod enc Try.prog w 0 (fun _ => true) true n 22 (([c0, c1, c2, c3, c4, c5].drop 2).take (Try.prog.cellsOf 22)) = xs[2]? := hf 2 _ rfl
    have h3 : DataW.trod enc Try.prog w 0 (fun _ => true) true n 22 (([c0, c1, c2, c3, c4, c5].drop 3).take (Try.prog.cellsOf 22)) = xs[3]? := hf 3 _ rfl
    have h4 : DataW.trod enc Try.prog w 0 (fun _ => true) true n 22 (([c0, c1, c2, c3, c4, c5].drop 4).take (Try.prog.cellsOf 22)) = xs[4]? := hf 4 _ rfl
    have h5 : DataW.trod enc Try.prog w 0 (fun _ => true) true n 4 (([c0, c1, c2, c3, c4, c5].drop 5).take (Try.prog.cellsOf 4)) = xs[5]? := hf 5 _ rfl
    rw [cells_int] at h0 h1
    rw [cells_u32] at h2 h3 h4
    rw [cells_bool] at h5
    simp only [List.drop_zero, List.drop_succ_cons, List.take_succ_cons, List.take_zero] at h0 h1 h2 h3 h4 h5
    have hl5 : xs.length = 6 := hlen
    obtain ⟨k, rfl, w0⟩ := key 0 3 .i64 c0 (by omega) h0 Try.underlying3
    obtain ⟨o, rfl, w1⟩ := key 1 3 .i64 c1 (by omega) h1 Try.underlying3
    obtain ⟨m, rfl, w2⟩ := key 2 22 .u32 c2 (by omega) h2 Try.underlying22
    obtain ⟨p, rfl, w3⟩ := key 3 22 .u32 c3 (by omega) h3 Try.underlying22
    obtain ⟨b, rfl, w4⟩ := key 4 22 .u32 c4 (by omega) h4 Try.underlying22
    rw [List.getElem?_eq_getElem (show 5 < xs.length by omega)] at h5
    obtain ⟨s, hc, _⟩ := DataW.trod_bool Try.underlying4 h5
    obtain rfl : c5 = .bool s := by simpa using hc
    exact ⟨⟨k, o, m, p, b, s⟩, rfl, w0, w1, w2, w3, w4⟩
theorem rowT_of {H : Type} {enc : TypeId × Value → H} {w : World} {a0 : Option Addr} {len0 cap0 : Nat} {d : DataW H} {p : List MemPlace}
    (h : DataW.Trod enc Try.prog w 0 (fun _ => true) true 29 (.slice a0 len0 cap0) d p) : ∃ Q, RowT w a0 len0 cap0 Q := by
  obtain ⟨fuel, hf⟩ := h
  rcases open_slice Try.underlying29 hf with ⟨hcs, _⟩ | ⟨a, len, cap, m, n, D, Pl, hcs, _, hl, hm, hmm, _, hx⟩
  · simp [Value.cells] at hcs
    obtain ⟨rfl, rfl, rfl⟩ := hcs
    exact ⟨[], rfl, Nat.le_refl _, by unfold maxLen; omega, fun _ => rfl, fun hn => absurd hn (by simp), by simp⟩
  · simp [Value.cells] at hcs
    obtain ⟨rfl, rfl, rfl⟩ := hcs
    simp only [if_true] at hmm
    subst hmm
    have key : ∀ i, i < m → ∃ q : Av, q.In ∧ w.cells? 0 (a.add (i * 6)) 6 = some q.cs := fun i hi => by
      obtain ⟨cs', h1, h2⟩ := hx i hi
      rw [cells_ask9] at h1
      obtain ⟨q, rfl, hq⟩ := ask9_of h2
      exact ⟨q, hq, h1⟩
    obtain ⟨Q, hQ⟩ : ∃ Q : Nat → Av, ∀ i, i < m → (Q i).In ∧ w.cells? 0 (a.add (i * 6)) 6 = some (Q i).cs := by
      haveI : Inhabited Av := ⟨⟨0, 0, 0, 0, 0, false⟩⟩
      exact choose_lt key
    refine ⟨(List.range len0).map Q, by simp, hl, hm, by simp, fun hn => ?_, fun p hp => ?_⟩
    · have h0 : 0 < len0 := by simpa using hn
      have cell : ∀ i, i < len0 → ∀ j, j < 6 → ∀ u, (Q i).cs[j]? = some u → w.cell? ((a.add (i * 6)).add j) = some u := fun i hi j hj u hu => by
        obtain ⟨_, hlen, hc⟩ := World.cells?_some (hQ i (by omega)).2
        have := hc j hj
        rw [hu] at this
        exact this
      obtain ⟨b, off, spot⟩ := a
      have c0 := cell 0 h0 0 (by omega) _ rfl
      have hspot : spot = none := by
        have := World.cell?_spot c0
        simpa [Addr.add] using this
      subst hspot
      have hadd : ∀ j, (⟨b, off, none⟩ : Addr).add j = ⟨b, off + j, none⟩ := fun j => by unfold Addr.add; split <;> simp_all
      refine ⟨b, off, rfl, World.block_lt_of_cell? w _ c0, fun i hi j u hu => ?_⟩
      have hi' : i < len0 := by simpa using hi
      have e : ((List.range len0).map Q)[i] = Q i := by simp
      rw [e] at hu
      have hj : j < 6 := by
        have := (List.getElem?_eq_some_iff.1 hu).1
        simpa [Av.cs] using this
      have := cell i hi' j hj u hu
      rw [hadd, show (⟨b, off + i * 6, none⟩ : Addr).add j = ⟨b, off + i * 6 + j, none⟩ by unfold Addr.add; split <;> simp_all] at this
      exact this
    · obtain ⟨i, hi, rfl⟩ := List.mem_map.1 hp
      exact (hQ i (by have := List.mem_range.1 hi; omega)).1
end Go.Proofs.Ytblfplhiamcpoaa

/-
  CALLS (law 7's Ask) THAT CAME IN, in a slice: three numbers and a slice of bytes each.
-/
import Derived.Test.YtgohmchodgoceaaRow
import Derived.Test.YtgohmchodgoceaaProg
import Derived.Deep.Slices
import Derived.ProofKit
import Derived.OpenShut
import Derived.Lib.SmallJoins
namespace Go.Proofs.Ytgohmchodgoceaa
open Go.ChangeShapes Go.WideShapes Go.RowKit Go.Deep
set_option linter.unusedSimpArgs false
set_option linter.unusedVariables false

/-- a call that came in -/
structure Aq where
  k : Int
  a : Int
  v : Int
  A : Option Addr
  len : Nat
  cap : Nat
  zs : List Int
def Aq.cs (q : Aq) : List Value := [.int .i64 q.k, .int .u32 q.a, .int .u32 q.v, .slice q.A q.len q.cap]
/-- its fields fit their kinds -/
structure Aq.In (w : World) (q : Aq) : Prop where
  k : (Lit.int .i64 q.k).wf = true
  a : (Lit.int .u32 q.a).wf = true
  v : (Lit.int .u32 q.v).wf = true
  l : IsRow .u8 w q.A q.len q.cap q.zs
/-- the slice leads to these calls -/
def RowQ (w : World) (A : Option Addr) (len cap : Nat) (Q : List Aq) : Prop :=
  Q.length = len ∧ len ≤ cap ∧ cap ≤ maxLen ∧ (A = none → cap = 0) ∧ (0 < Q.length → ∃ b off, A = some ⟨b, off, none⟩ ∧ b < w.heap.size ∧ ∀ (i : Nat) (h : i < Q.length) (j : Nat) (u : Value), (Q[i]).cs[j]? = some u → w.cell? ⟨b, off + i * 4 + j, none⟩ = some u) ∧ ∀ q ∈ Q, q.In w
theorem cells_ask : Try.prog.cellsOf 33 = 4 := by kernel_rfl
theorem cells_int : Try.prog.cellsOf 3 = 1 := by kernel_rfl
theorem cells_u32 : Try.prog.cellsOf 31 = 1 := by kernel_rfl
theorem cells_bytes : Try.prog.cellsOf 29 = 1 := by kernel_rfl
theorem cells_u8 : Try.prog.cellsOf 5 = 1 := by kernel_rfl
theorem ask_of {H : Type} {enc : TypeId × Value → H} {w : World} {fuel : Nat} {cs : List Value} {x : DataW H × List MemPlace} (h : DataW.trod enc Try.prog w 0 (fun _ => true) true fuel 33 cs = some x) :
    ∃ q : Aq, cs = q.cs ∧ q.In w := by
  obtain ⟨xs, n, _, rfl, hl, hlen, hf⟩ := DataW.trod_struct Try.underlying33 h
  rw [cells_ask] at hl
  have key : ∀ (i : Nat) (f : TypeId) (k : IntKind) (c : Value), i < xs.length → DataW.trod enc Try.prog w 0 (fun _ => true) true n f [c] = xs[i]? → Try.prog.underlying f = some (.int k) → ∃ z : Int, c = .int k z ∧ (Lit.int k z).wf = true := by
    intro i f k c hi h1 h2
    rw [List.getElem?_eq_getElem hi] at h1
    obtain ⟨z, hc, _, hw⟩ := DataW.trod_int h2 h1
    exact ⟨z, by simpa using hc, hw⟩
  match cs, hl with
  | [c0, c1, c2, c3], _ =>
    have h0 : DataW.trod enc Try.prog w 0 (fun _ => true) true n 3 (([c0, c1, c2, c3].drop 0).take (Try.prog.cellsOf 3)) = xs[0]? := hf 0 _ rfl
    have h1 : DataW.trod enc Try.prog w 0 (fun _ => true) true n 31 (([c0, c1, c2, c3].drop 1).take (Try.prog.cellsOf 31)) = xs[1]? := hf 1 _ rfl
    have h2 : DataW.trod enc Try.prog w 0 (fun _ => true) true n 31 (([c0, c1, c2, c3].drop 2).take (Try.prog.cellsOf 31)) = xs[2]? := hf 2 _ rfl
    have h3 : DataW.trod enc Try.prog w 0 (fun _ => true) true n 29 (([c0, c1, c2, c3].drop 3).take (Try.prog.cellsOf 29)) = xs[3]? := hf 3 _ rfl
    rw [cells_int] at h0
    rw [cells_u32] at h1 h2
    rw [cells_bytes] at h3
    simp only [List.drop_zero, List.drop_succ_cons, List.take_succ_cons, List.take_zero] at h0 h1 h2 h3
    have hl5 : xs.length = 4 := hlen
    obtain ⟨k, rfl, w0⟩ := key 0 3 .i64 c0 (by omega) h0 Try.underlying3
    obtain ⟨o, rfl, w1⟩ := key 1 31 .u32 c1 (by omega) h1 Try.underlying31
    obtain ⟨m, rfl, w2⟩ := key 2 31 .u32 c2 (by omega) h2 Try.underlying31
    rw [List.getElem?_eq_getElem (show 3 < xs.length by omega)] at h3
    rcases open_ints Try.underlying29 Try.underlying5 cells_u8 h3 with ⟨hcs, _⟩ | ⟨a, l, c, zs, hcs, _, hl', hm, hz, _, hcell, hwz⟩
    · obtain rfl : c3 = .slice none 0 0 := by simpa using hcs
      exact ⟨⟨k, o, m, none, 0, 0, []⟩, rfl, w0, w1, w2, .inl ⟨rfl, rfl, rfl, rfl⟩⟩
    · obtain rfl : c3 = .slice (some a) l c := by simpa using hcs
      exact ⟨⟨k, o, m, some a, l, c, zs⟩, rfl, w0, w1, w2, .inr ⟨a, rfl, hl', hm, by simpa using hz, hcell, hwz⟩⟩
theorem rowQ_of {H : Type} {enc : TypeId × Value → H} {w : World} {a0 : Option Addr} {len0 cap0 : Nat} {d : DataW H} {p : List MemPlace}
    (h : DataW.Trod enc Try.prog w 0 (fun _ => true) true 34 (.slice a0 len0 cap0) d p) : ∃ Q, RowQ w a0 len0 cap0 Q := by
  obtain ⟨fuel, hf⟩ := h
  rcases open_slice Try.underlying34 hf with ⟨hcs, _⟩ | ⟨a, len, cap, m, n, D, Pl, hcs, _, hl, hm, hmm, _, hx⟩
  · simp [Value.cells] at hcs
    obtain ⟨rfl, rfl, rfl⟩ := hcs
    exact ⟨[], rfl, Nat.le_refl _, by unfold maxLen; omega, fun _ => rfl, fun hn => absurd hn (by simp), by simp⟩
  · simp [Value.cells] at hcs
    obtain ⟨rfl, rfl, rfl⟩ := hcs
    simp only [if_true] at hmm
    subst hmm
    have key : ∀ i, i < m → ∃ q : Aq, q.In w ∧ w.cells? 0 (a.add (i * 4)) 4 = some q.cs := fun i hi => by
      obtain ⟨cs', h1, h2⟩ := hx i hi
      rw [cells_ask] at h1
      obtain ⟨q, rfl, hq⟩ := ask_of h2
      exact ⟨q, hq, h1⟩
    obtain ⟨Q, hQ⟩ : ∃ Q : Nat → Aq, ∀ i, i < m → (Q i).In w ∧ w.cells? 0 (a.add (i * 4)) 4 = some (Q i).cs := by
      haveI : Inhabited Aq := ⟨⟨0, 0, 0, none, 0, 0, []⟩⟩
      exact choose_lt key
    refine ⟨(List.range len0).map Q, by simp, hl, hm, by simp, fun hn => ?_, fun p hp => ?_⟩
    · have h0 : 0 < len0 := by simpa using hn
      have cell : ∀ i, i < len0 → ∀ j, j < 4 → ∀ u, (Q i).cs[j]? = some u → w.cell? ((a.add (i * 4)).add j) = some u := fun i hi j hj u hu => by
        obtain ⟨_, hlen, hc⟩ := World.cells?_some (hQ i (by omega)).2
        have := hc j hj
        rw [hu] at this
        exact this
      obtain ⟨b, off, spot⟩ := a
      have c0 := cell 0 h0 0 (by omega) _ rfl
      have hspot : spot = none := by
        have := World.cell?_spot c0
        simpa [Addr.add] using this
      subst hspot
      have hadd : ∀ j, (⟨b, off, none⟩ : Addr).add j = ⟨b, off + j, none⟩ := fun j => by unfold Addr.add; split <;> simp_all
      refine ⟨b, off, rfl, World.block_lt_of_cell? w _ c0, fun i hi j u hu => ?_⟩
      have hi' : i < len0 := by simpa using hi
      have e : ((List.range len0).map Q)[i] = Q i := by simp
      rw [e] at hu
      have hj : j < 4 := by
        have := (List.getElem?_eq_some_iff.1 hu).1
        simpa [Aq.cs] using this
      have := cell i hi' j hj u hu
      rw [hadd, show (⟨b, off + i * 4, none⟩ : Addr).add j = ⟨b, off + i * 4 + j, none⟩ by unfold Addr.add; split <;> simp_all] at this
      exact this
    · obtain ⟨i, hi, rfl⟩ := List.mem_map.1 hp
      exact (hQ i (by have := List.mem_range.1 hi; omega)).1
end Go.Proofs.Ytgohmchodgoceaa

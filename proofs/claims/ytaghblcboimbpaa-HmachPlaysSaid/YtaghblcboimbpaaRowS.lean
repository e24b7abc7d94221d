/-
  HOST INSTRUCTIONS THAT CAME IN, by value and in a slice.
-/
import Derived.Test.YtaghblcboimbpaaRowH
import Derived.Deep.Slices
import Derived.ProofKit
import Derived.OpenShut
import Derived.Lib.SmallJoins
namespace Go.Proofs.Ytaghblcboimbpaa
open Go.ChangeShapes Go.WideShapes Go.RowKit Go.Deep
set_option linter.unusedSimpArgs false
set_option linter.unusedVariables false

theorem i64_bd {n : Int} (h : (Lit.int .i64 n).wf = true) : -9223372036854775808 ≤ n ∧ n ≤ 9223372036854775807 := by
  simp [Lit.wf, IntKind.min, IntKind.max, IntKind.bits, IntKind.signed] at h; omega
theorem u32_bd {n : Int} (h : (Lit.int .u32 n).wf = true) : 0 ≤ n ∧ n < 4294967296 := by
  simp [Lit.wf, IntKind.min, IntKind.max, IntKind.bits, IntKind.signed] at h; omega
theorem cells_hi : Try.prog.cellsOf 35 = 5 := by kernel_rfl
theorem cells_int : Try.prog.cellsOf 3 = 1 := by kernel_rfl
theorem cells_u32 : Try.prog.cellsOf 33 = 1 := by kernel_rfl

theorem hi_of {H : Type} {enc : TypeId × Value → H} {w : World} {base : Nat} {spare : Nat → Bool} {held : Bool} {fuel : Nat} {cs : List Value} {x : DataW H × List MemPlace} (h : DataW.trod enc Try.prog w base spare held fuel 35 cs = some x) :
    ∃ q : Hi, cs = q.cs ∧ q.In := by
  obtain ⟨xs, n, _, rfl, hl, hlen, hf⟩ := DataW.trod_struct Try.underlying35 h
  rw [cells_hi] at hl
  have key : ∀ (i : Nat) (f : TypeId) (k : IntKind) (c : Value), i < xs.length → DataW.trod enc Try.prog w base spare held n f [c] = xs[i]? → Try.prog.underlying f = some (.int k) → ∃ z : Int, c = .int k z ∧ (Lit.int k z).wf = true := by
    intro i f k c hi h1 h2
    rw [List.getElem?_eq_getElem hi] at h1
    obtain ⟨z, hc, _, hw⟩ := DataW.trod_int h2 h1
    exact ⟨z, by simpa using hc, hw⟩
  match cs, hl with
  | [c0, c1, c2, c3, c4], _ =>
    have h0 : DataW.trod enc Try.prog w base spare held n 3 (([c0, c1, c2, c3, c4].drop 0).take (Try.prog.cellsOf 3)) = xs[0]? := hf 0 _ rfl
    have h1 : DataW.trod enc Try.prog w base spare held n 3 (([c0, c1, c2, c3, c4].drop 1).take (Try.prog.cellsOf 3)) = xs[1]? := hf 1 _ rfl
    have h2 : DataW.trod enc Try.prog w base spare held n 3 (([c0, c1, c2, c3, c4].drop 2).take (Try.prog.cellsOf 3)) = xs[2]? := hf 2 _ rfl
    have h3 : DataW.trod enc Try.prog w base spare held n 3 (([c0, c1, c2, c3, c4].drop 3).take (Try.prog.cellsOf 3)) = xs[3]? := hf 3 _ rfl
    have h4 : DataW.trod enc Try.prog w base spare held n 33 (([c0, c1, c2, c3, c4].drop 4).take (Try.prog.cellsOf 33)) = xs[4]? := hf 4 _ rfl
    rw [cells_int] at h0 h1 h2 h3
    rw [cells_u32] at h4
    simp only [List.drop_zero, List.drop_succ_cons, List.take_succ_cons, List.take_zero] at h0 h1 h2 h3 h4
    have hl5 : xs.length = 5 := hlen
    obtain ⟨o, rfl, w0⟩ := key 0 3 .i64 c0 (by omega) h0 Try.underlying3
    obtain ⟨d, rfl, w1⟩ := key 1 3 .i64 c1 (by omega) h1 Try.underlying3
    obtain ⟨a, rfl, w2⟩ := key 2 3 .i64 c2 (by omega) h2 Try.underlying3
    obtain ⟨b, rfl, w3⟩ := key 3 3 .i64 c3 (by omega) h3 Try.underlying3
    obtain ⟨m, rfl, w4⟩ := key 4 33 .u32 c4 (by omega) h4 Try.underlying33
    exact ⟨⟨o, d, a, b, m⟩, rfl, i64_bd w0, i64_bd w1, i64_bd w2, i64_bd w3, u32_bd w4⟩
/-- by value -/
theorem hi_open {H : Type} {enc : TypeId × Value → H} {w w0 : World} {r : Reach} {b0 base : Nat} {spare : Nat → Bool} {held : Bool} {v : Value} {d : DataW H} {p : List MemPlace}
    (hv : Value.okWide Try.prog w0 r b0 35 v) (h : DataW.Trod enc Try.prog w base spare held 35 v d p) : ∃ q : Hi, v = q.v ∧ q.In := by
  obtain ⟨cs, rfl, hsz⟩ := okWide_struct Try.underlying35 hv
  obtain ⟨fuel, hf⟩ := h
  obtain ⟨q, hq, hi⟩ := hi_of hf
  refine ⟨q, ?_, hi⟩
  have : cs.toList = q.cs := by simpa [Value.cells] using hq
  rw [show cs = q.cs.toArray by rw [← this]]
  rfl
/-- in a slice -/
theorem rowI_of {H : Type} {enc : TypeId × Value → H} {w : World} {a0 : Option Addr} {len0 cap0 : Nat} {d : DataW H} {p : List MemPlace}
    (h : DataW.Trod enc Try.prog w 0 (fun _ => true) true 36 (.slice a0 len0 cap0) d p) : ∃ L, RowI w a0 len0 cap0 L := by
  obtain ⟨fuel, hf⟩ := h
  rcases open_slice Try.underlying36 hf with ⟨hcs, _⟩ | ⟨a, len, cap, m, n, D, Pl, hcs, _, hl, hm, hmm, _, hx⟩
  · simp [Value.cells] at hcs
    obtain ⟨rfl, rfl, rfl⟩ := hcs
    exact ⟨[], rfl, Nat.le_refl _, by unfold maxLen; omega, fun _ => rfl, fun hn => absurd hn (by simp), by simp⟩
  · simp [Value.cells] at hcs
    obtain ⟨rfl, rfl, rfl⟩ := hcs
    simp only [if_true] at hmm
    subst hmm
    have key : ∀ i, i < m → ∃ q : Hi, q.In ∧ w.cells? 0 (a.add (i * 5)) 5 = some q.cs := fun i hi => by
      obtain ⟨cs', h1, h2⟩ := hx i hi
      rw [cells_hi] at h1
      obtain ⟨q, rfl, hq⟩ := hi_of h2
      exact ⟨q, hq, h1⟩
    obtain ⟨Q, hQ⟩ : ∃ Q : Nat → Hi, ∀ i, i < m → (Q i).In ∧ w.cells? 0 (a.add (i * 5)) 5 = some (Q i).cs := by
      haveI : Inhabited Hi := ⟨⟨0, 0, 0, 0, 0⟩⟩
      exact choose_lt key
    refine ⟨(List.range len0).map Q, by simp, hl, hm, by simp, fun hn => ?_, fun p hp => ?_⟩
    · have h0 : 0 < len0 := by simpa using hn
      have cell : ∀ i, i < len0 → ∀ j, j < 5 → ∀ u, (Q i).cs[j]? = some u → w.cell? ((a.add (i * 5)).add j) = some u := fun i hi j hj u hu => by
        obtain ⟨_, hlen, hc⟩ := World.cells?_some (hQ i (by omega)).2
        have := hc j hj
        rw [hu] at this
        exact this
      obtain ⟨b, off, spot⟩ := a
      have c0 := cell 0 h0 0 (by omega) _ rfl
      have hspot : spot = none := by
        have := World.cell?_spot c0
        simpa [Addr.add] using this
      subst hspot
      have hadd : ∀ j, (⟨b, off, none⟩ : Addr).add j = ⟨b, off + j, none⟩ := fun j => by unfold Addr.add; split <;> simp_all
      refine ⟨b, off, rfl, World.block_lt_of_cell? w _ c0, fun k hk => ?_⟩
      have hk' : k < len0 := by simpa using hk
      have e : ((List.range len0).map Q)[k] = Q k := by simp
      have key2 : ∀ j, j < 5 → ∀ u, (Q k).cs[j]? = some u → w.cell? ⟨b, off + k * 5 + j, none⟩ = some u := fun j hj u hu => by
        have := cell k hk' j hj u hu
        rw [hadd, show (⟨b, off + k * 5, none⟩ : Addr).add j = ⟨b, off + k * 5 + j, none⟩ by unfold Addr.add; split <;> simp_all] at this
        exact this
      rw [e]
      exact ⟨key2 0 (by omega) _ rfl, key2 1 (by omega) _ rfl, key2 2 (by omega) _ rfl, key2 3 (by omega) _ rfl, key2 4 (by omega) _ rfl⟩
    · obtain ⟨i, hi, rfl⟩ := List.mem_map.1 hp
      exact (hQ i (by have := List.mem_range.1 hi; omega)).1
end Go.Proofs.Ytaghblcboimbpaa

/-
  TWO TABLES ON ONE POOL: Map and Unmap of either leave the other.
-/
import Derived.Test.YtomdimplakmpeaaTo
namespace Go.Proofs.Ytomdimplakmpeaa
open Go.RowKit
set_option linter.unusedSimpArgs false
set_option linter.unusedVariables false

theorem un_new {S : Po} {T : Ta} (J : Joint S T) (hO : S.Ok) (hT : T.Good) (k : Nat) (hk : k < T.n) :
    Joint (unS S T k) (unT T k) ∧ (unS S T k).Ok ∧ (unS S T k).prom = S.prom ∧ ((unS S T k = S) ∨ ∃ q : Nat, S.own q = T.o ∧ unS S T k = S.rel1 q) := by
  cases hb : neB (T.fr k)
  · obtain ⟨_, e1, e2⟩ := un_no (S := S) (T := T) (k := (k : Int)) (by rw [mB_nat hk]; exact hb)
    rw [e1, e2]
    exact ⟨J, hO, rfl, .inl rfl⟩
  · obtain ⟨_, q, _, _, _, h4, e1, e2, hj, ho⟩ := un_ok J hO hT k hk (by simpa [neB] using hb)
    rw [e1, e2]
    exact ⟨hj, ho, rfl, .inr ⟨q, h4, rfl⟩⟩
theorem map_new2 {S : Po} {T : Ta} (J : Joint S T) (hS : S.Good) (hO : S.Ok) (hT : T.Good) (k : Nat) (hk : k < T.n) :
    Joint (mapS S T k) (mapT S T k) ∧ (mapS S T k).Ok ∧ (mapS S T k).prom = S.prom ∧ ((mapS S T k = S) ∨ ∃ q : Nat, neB (S.own q) = false ∧ mapS S T k = S.tk q T.o) := by
  obtain ⟨_, _, _, _, _, _, _, _, _, hj, hk2⟩ := map_ok J hS hO hT k hk
  refine ⟨hj, hk2, ?_, ?_⟩
  · cases hb : neB (T.fr k)
    · obtain ⟨_, f, _, e3, _⟩ := map_new J hS hO hT k hk hb
      rw [e3]; rfl
    · obtain ⟨_, _, e3, _⟩ := map_old (S := S) k hk (by simpa [neB] using hb)
      rw [e3]
  · cases hb : neB (T.fr k)
    · obtain ⟨_, f, _, e3, _, _, _, hn, _⟩ := map_new J hS hO hT k hk hb
      exact .inr ⟨f, hn, e3⟩
    · obtain ⟨_, _, e3, _⟩ := map_old (S := S) k hk (by simpa [neB] using hb)
      exact .inl e3
/-- two tables of as many pages each, of unlike owners -/
structure Trio (w0 : World) (B g h1 r1 o1 h2 r2 o2 n : Nat) (w : World) (S : Po) (T1 T2 : Ta) : Prop where
  p : IsP w g S
  a : IsT w g h1 r1 T1
  b : IsT w g h2 r2 T2
  ja : Joint S T1
  jb : Joint S T2
  k : S.Ok
  oa : T1.o = o1
  ob : T2.o = o2
  oo : o1 ≠ o2
  na : T1.n = n
  nb : T2.n = n
  bl : Below B w0 w
  bg : B ≤ g
  bh1 : B ≤ h1
  br1 : B ≤ r1
  bh2 : B ≤ h2
  br2 : B ≤ r2
  d1 : r1 ≠ r2
  d2 : h2 ≠ r1
  d3 : h1 ≠ r2
section
variable {w0 w : World} {B g h1 r1 o1 h2 r2 o2 n : Nat} {S : Po} {T1 T2 : Ta}
theorem Trio.swap (d : Trio w0 B g h1 r1 o1 h2 r2 o2 n w S T1 T2) : Trio w0 B g h2 r2 o2 h1 r1 o1 n w S T2 T1 :=
  ⟨d.p, d.b, d.a, d.jb, d.ja, d.k, d.ob, d.oa, d.oo.symm, d.nb, d.na, d.bl, d.bg, d.bh2, d.br2, d.bh1, d.br1, d.d1.symm, d.d3, d.d2⟩
theorem Trio.size (d : Trio w0 B g h1 r1 o1 h2 r2 o2 n w S T1 T2) (hB : w0.heap.size = B) : B ≤ w.heap.size := by have := d.bl.size; omega
theorem Trio.keep (d : Trio w0 B g h1 r1 o1 h2 r2 o2 n w S T1 T2) (hB : w0.heap.size = B) {w' : World} (hb : Below w.heap.size w w') : Trio w0 B g h1 r1 o1 h2 r2 o2 n w' S T1 T2 :=
  ⟨d.p.below hb, d.a.below hb, d.b.below hb, d.ja, d.jb, d.k, d.oa, d.ob, d.oo, d.na, d.nb, d.bl.trans (hb.mono (d.size hB)), d.bg, d.bh1, d.br1, d.bh2, d.br2, d.d1, d.d2, d.d3⟩
/-- new memory is turned -/
theorem Trio.set (d : Trio w0 B g h1 r1 o1 h2 r2 o2 n w S T1 T2) (q : Addr) (v : Value) (hq : B ≤ q.block) (hg : g ≠ q.block) (e1 : h1 ≠ q.block) (e2 : r1 ≠ q.block) (e3 : h2 ≠ q.block) (e4 : r2 ≠ q.block) : Trio w0 B g h1 r1 o1 h2 r2 o2 n (w.setCell q v) S T1 T2 :=
  ⟨d.p.keep (Below.heap_setCell _ _ _ _ hg), d.a.keep (Below.heap_setCell _ _ _ _ e1) (Below.heap_setCell _ _ _ _ e2), d.b.keep (Below.heap_setCell _ _ _ _ e3) (Below.heap_setCell _ _ _ _ e4), d.ja, d.jb, d.k, d.oa, d.ob, d.oo, d.na, d.nb, d.bl.setCell hq _, d.bg, d.bh1, d.br1, d.bh2, d.br2, d.d1, d.d2, d.d3⟩
/-- a call on the first table -/
def Trd (w0 : World) (B g h1 r1 o1 h2 r2 o2 n : Nat) (T2 : Ta) (w w' : World) : Prop := ∃ S' T1', Trio w0 B g h1 r1 o1 h2 r2 o2 n w' S' T1' T2 ∧ Turn g r1 w w'
theorem Trio.map (d : Trio w0 B g h1 r1 o1 h2 r2 o2 n w S T1 T2) (hB : w0.heap.size = B) (q : Nat) (hq : q < n) :
    Calls Try.prog 10 #[.pointer (some ⟨h1, 0, none⟩), .int .i64 q] w fun e w' => ∃ f er : Int, e = .returned (.tuple #[.int .i64 f, .int .i64 er]) ∧ Trd w0 B g h1 r1 o1 h2 r2 o2 n T2 w w' := by
  obtain ⟨hj, hk, hpm, hs⟩ := map_new2 d.ja d.p.good d.k d.a.good q (by rw [d.na]; exact hq)
  refine (map_any (q : Int) w d.p d.a).mono ?_
  rintro e w' ⟨rfl, hp, ht, hu⟩
  obtain ⟨n1, n2⟩ := mapT_n S T1 q
  have hj2 : Joint (mapS S T1 q) T2 := by
    rcases hs with e | ⟨f, hf, e⟩
    · rw [e]; exact d.jb
    · rw [e] at hpm ⊢
      exact d.jb.other d.b.good f (congrFun hpm _) (fun j hj => upd_other _ _ _ _ hj) (fun e => by rw [e] at hf; have := not_neB hf; omega) (by
        show upd S.own f T1.o f ≠ T2.o
        rw [upd_same, d.oa, d.ob]; have := d.oo; omega)
  exact ⟨_, _, rfl, _, _, ⟨hp, ht, d.b.turn hu d.b.gh.symm d.d2 d.b.gr.symm d.d1.symm, hj, hj2, hk, n2.trans d.oa, d.ob, d.oo, n1.trans d.na, d.nb, hu.below d.bg d.br1 d.bl (d.size hB), d.bg, d.bh1, d.br1, d.bh2, d.br2, d.d1, d.d2, d.d3⟩, hu⟩
theorem Trio.unmap (d : Trio w0 B g h1 r1 o1 h2 r2 o2 n w S T1 T2) (hB : w0.heap.size = B) (q : Nat) (hq : q < n) :
    Calls Try.prog 11 #[.pointer (some ⟨h1, 0, none⟩), .int .i64 q] w fun e w' => ∃ er : Int, e = .returned (.int .i64 er) ∧ Trd w0 B g h1 r1 o1 h2 r2 o2 n T2 w w' := by
  obtain ⟨hj, hk, hpm, hs⟩ := un_new d.ja d.k d.a.good q (by rw [d.na]; exact hq)
  refine (unmap_any (q : Int) w d.p d.a).mono ?_
  rintro e w' ⟨rfl, hp, ht, hu⟩
  obtain ⟨n1, n2⟩ := unT_n T1 q
  have hj2 : Joint (unS S T1 q) T2 := by
    rcases hs with e | ⟨f, hf, e⟩
    · rw [e]; exact d.jb
    · rw [e] at hpm ⊢
      exact d.jb.other d.b.good f (congrFun hpm _) (fun j hj => upd_other _ _ _ _ hj) (by rw [hf, d.oa, d.ob]; have := d.oo; omega) (by
        show upd S.own f (-1) f ≠ T2.o
        rw [upd_same]; omega)
  exact ⟨_, rfl, _, _, ⟨hp, ht, d.b.turn hu d.b.gh.symm d.d2 d.b.gr.symm d.d1.symm, hj, hj2, hk, n2.trans d.oa, d.ob, d.oo, n1.trans d.na, d.nb, hu.below d.bg d.br1 d.bl (d.size hB), d.bg, d.bh1, d.br1, d.bh2, d.br2, d.d1, d.d2, d.d3⟩, hu⟩
/-- no frame is both's -/
theorem Trio.apart (d : Trio w0 B g h1 r1 o1 h2 r2 o2 n w S T1 T2) (x y : Nat) (hx : x < n) (hy : y < n) (fx : 0 ≤ T1.fr x) (fy : 0 ≤ T2.fr y) : T1.fr x ≠ T2.fr y ∧ 16 ≤ T1.fr x ∧ 16 ≤ T2.fr y := by
  obtain ⟨p, e1, p1, _, p3⟩ := d.ja.held d.a.good x (by rw [d.na]; exact hx) fx
  obtain ⟨q, e2, q1, _, q3⟩ := d.jb.held d.b.good y (by rw [d.nb]; exact hy) fy
  refine ⟨fun e => ?_, by omega, by omega⟩
  have hpq : p = q := by omega
  rw [hpq, q3, d.oa, d.ob] at p3
  have := d.oo
  omega
end
end Go.Proofs.Ytomdimplakmpeaa

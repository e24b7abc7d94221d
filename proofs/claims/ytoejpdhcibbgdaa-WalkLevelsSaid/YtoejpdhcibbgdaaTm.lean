/-
  A TABLE AS MEMORY HOLDS IT: the frame of each page, what is guarded.
-/
import Derived.Test.YtoejpdhcibbgdaaPl
namespace Go.Proofs.Ytoejpdhcibbgdaa
open Go.RowKit
set_option linter.unusedSimpArgs false
set_option linter.unusedVariables false

/-- a table: how many pages, whose, the frame of each (-1: not mapped), what is guarded -/
structure Ta where
  n : Nat
  o : Nat
  fr : Nat → Int
  gd : Nat → Bool
structure Ta.Good (T : Ta) : Prop where
  n0 : 1 ≤ T.n
  n1 : T.n ≤ 64
  o : T.o < 4
  fr : ∀ k, T.fr k = -1 ∨ (16 ≤ T.fr k ∧ T.fr k < 256)
  gd : ∀ k, T.gd k = true → 0 ≤ T.fr k
/-- the table lies in block h, its pages in block r, its pool in block g -/
structure IsT (w : World) (g h r : Nat) (T : Ta) : Prop where
  good : T.Good
  gh : g ≠ h
  gr : g ≠ r
  hr : h ≠ r
  zh : h < w.heap.size
  zr : r < w.heap.size
  c0 : w.cell? ⟨h, 0, none⟩ = some (.pointer (some ⟨g, 0, none⟩))
  c1 : w.cell? ⟨h, 1, none⟩ = some (.int .i64 T.o)
  c2 : w.cell? ⟨h, 2, none⟩ = some (.slice (some ⟨r, 0, none⟩) T.n T.n)
  mp : ∀ k, k < T.n → w.cell? ⟨r, k * 3, none⟩ = some (.bool (neB (T.fr k)))
  gd : ∀ k, k < T.n → w.cell? ⟨r, k * 3 + 1, none⟩ = some (.bool (T.gd k))
  fm : ∀ k, k < T.n → w.cell? ⟨r, k * 3 + 2, none⟩ = some (.int .i64 (pos (T.fr k)))
  fz : ∀ i, w.frozen? ⟨r, i, none⟩ = false
section
variable {w w' : World} {g h r a b : Nat} {T : Ta}
theorem IsT.keep (x : IsT w g h r T) (e1 : w'.heap[h]? = w.heap[h]?) (e2 : w'.heap[r]? = w.heap[r]?) : IsT w' g h r T := by
  have hc1 : ∀ i, w'.cell? ⟨h, i, none⟩ = w.cell? ⟨h, i, none⟩ := fun i => by simp only [World.cell?, e1]
  have hc2 : ∀ i, w'.cell? ⟨r, i, none⟩ = w.cell? ⟨r, i, none⟩ := fun i => by simp only [World.cell?, e2]
  have z1 : h < w'.heap.size := by
    have h1 : w.heap[h]? = some (w.heap[h]'x.zh) := Array.getElem?_eq_getElem x.zh
    rw [h1] at e1
    exact (Array.getElem?_eq_some_iff.1 e1).1
  have z2 : r < w'.heap.size := by
    have h1 : w.heap[r]? = some (w.heap[r]'x.zr) := Array.getElem?_eq_getElem x.zr
    rw [h1] at e2
    exact (Array.getElem?_eq_some_iff.1 e2).1
  exact ⟨x.good, x.gh, x.gr, x.hr, z1, z2, (hc1 _).trans x.c0, (hc1 _).trans x.c1, (hc1 _).trans x.c2, fun k hk => (hc2 _).trans (x.mp k hk), fun k hk => (hc2 _).trans (x.gd k hk), fun k hk => (hc2 _).trans (x.fm k hk), fun i => by
    have := x.fz i
    simp only [World.frozen?, e2] at this ⊢; exact this⟩
theorem IsT.below (x : IsT w g h r T) (hb : Below w.heap.size w w') : IsT w' g h r T := x.keep (hb.block h x.zh) (hb.block r x.zr)
theorem IsT.turn (x : IsT w g h r T) (t : Turn a b w w') (h1 : h ≠ a) (h2 : h ≠ b) (r1 : r ≠ a) (r2 : r ≠ b) : IsT w' g h r T := x.keep (t.block h x.zh h1 h2) (t.block r x.zr r1 r2)
/-- the pool's own turns leave it -/
theorem IsT.turnP (x : IsT w g h r T) (t : Turn g g w w') : IsT w' g h r T := x.turn t x.gh.symm x.gh.symm x.gr.symm x.gr.symm

/-- a page's cells -/
def enC (f : Int) : List Value := [.bool (neB f), .bool false, .int .i64 (pos f)]
/-- a page is mapped to f, or to none (-1), and not guarded -/
def Ta.put (T : Ta) (k : Nat) (f : Int) : Ta := { T with fr := upd T.fr k f, gd := upd T.gd k false }
def Ta.mark (T : Ta) (k : Nat) (b : Bool) : Ta := { T with gd := upd T.gd k b }
theorem IsT.there (X : IsT w g h r T) (k : Nat) (hk : k < T.n) : w.there r (k * 3) 3 := fun j hj => by
  refine ⟨?_, X.fz _⟩
  match j, hj with
  | 0, _ => rw [Nat.add_zero, X.mp k hk]; rfl
  | 1, _ => rw [X.gd k hk]; rfl
  | 2, _ => rw [X.fm k hk]; rfl
theorem IsT.setEntry (X : IsT w g h r T) (k : Nat) (hk : k < T.n) (f : Int) (hf : f = -1 ∨ (16 ≤ f ∧ f < 256)) :
    IsT (w.setCells r (k * 3) (enC f)) g h r (T.put k f) := by
  have hin : ∀ j, j < (enC f).length → (w.cell? ⟨r, k * 3 + j, none⟩).isSome = true := fun j hj => ((X.there k hk) j hj).1
  have get : ∀ j, (hj : j < (enC f).length) → (w.setCells r (k * 3) (enC f)).cell? ⟨r, k * 3 + j, none⟩ = some (enC f)[j] := fun j hj => World.cell?_setCells_in r (enC f) (k * 3) w hin j hj
  have out : ∀ i, (i < k * 3 ∨ k * 3 + 3 ≤ i) → (w.setCells r (k * 3) (enC f)).cell? ⟨r, i, none⟩ = w.cell? ⟨r, i, none⟩ := fun i hi =>
    World.cell?_setCells_out r (enC f) (k * 3) w _ (fun _ _ => hi)
  have outH : ∀ i, (w.setCells r (k * 3) (enC f)).cell? ⟨h, i, none⟩ = w.cell? ⟨h, i, none⟩ := fun i =>
    World.cell?_setCells_out r (enC f) (k * 3) w _ (fun e _ => absurd e X.hr)
  refine ⟨⟨X.good.n0, X.good.n1, X.good.o, fun i => ?_, fun i hi => ?_⟩, X.gh, X.gr, X.hr, by rw [size_setCells]; exact X.zh, by rw [size_setCells]; exact X.zr, (outH _).trans X.c0, (outH _).trans X.c1, (outH _).trans X.c2, fun i hi => ?_, fun i hi => ?_, fun i hi => ?_, fun i => by rw [World.frozen?_setCells]; exact X.fz i⟩
  · show upd T.fr k f i = -1 ∨ (16 ≤ upd T.fr k f i ∧ upd T.fr k f i < 256)
    by_cases e : i = k
    · subst e; simp only [upd_same]; exact hf
    · simp only [upd_other _ _ _ _ e]; exact X.good.fr i
  · revert hi
    show upd T.gd k false i = true → 0 ≤ upd T.fr k f i
    by_cases e : i = k
    · subst e; simp only [upd_same]; intro hx; cases hx
    · simp only [upd_other _ _ _ _ e]; exact X.good.gd i
  · show _ = some (Value.bool (neB (upd T.fr k f i)))
    by_cases e : i = k
    · subst e; simp only [upd_same]; exact get 0 (by simp [enC])
    · simp only [upd_other _ _ _ _ e]; rw [out _ (by omega)]; exact X.mp i hi
  · show _ = some (Value.bool (upd T.gd k false i))
    by_cases e : i = k
    · subst e; simp only [upd_same]; exact get 1 (by simp [enC])
    · simp only [upd_other _ _ _ _ e]; rw [out _ (by omega)]; exact X.gd i hi
  · show _ = some (Value.int .i64 (pos (upd T.fr k f i)))
    by_cases e : i = k
    · subst e; simp only [upd_same]; exact get 2 (by simp [enC])
    · simp only [upd_other _ _ _ _ e]; rw [out _ (by omega)]; exact X.fm i hi
theorem IsT.setMark (X : IsT w g h r T) (k : Nat) (hk : k < T.n) (b : Bool) (hf : 0 ≤ T.fr k) :
    IsT (w.setCell ⟨r, k * 3 + 1, none⟩ (.bool b)) g h r (T.mark k b) := by
  have out : ∀ i, i ≠ k * 3 + 1 → (w.setCell ⟨r, k * 3 + 1, none⟩ (.bool b)).cell? ⟨r, i, none⟩ = w.cell? ⟨r, i, none⟩ := fun i hi =>
    World.cell?_setCell_other _ _ _ _ (by simp <;> omega)
  have outH : ∀ i, (w.setCell ⟨r, k * 3 + 1, none⟩ (.bool b)).cell? ⟨h, i, none⟩ = w.cell? ⟨h, i, none⟩ := fun i =>
    World.cell?_setCell_other _ _ _ _ (by have := X.hr; simp <;> omega)
  refine ⟨⟨X.good.n0, X.good.n1, X.good.o, X.good.fr, fun i hi => ?_⟩, X.gh, X.gr, X.hr, by simpa using X.zh, by simpa using X.zr, (outH _).trans X.c0, (outH _).trans X.c1, (outH _).trans X.c2, fun i hi => ?_, fun i hi => ?_, fun i hi => ?_, fun i => by rw [World.frozen?_setCell]; exact X.fz i⟩
  · revert hi
    show upd T.gd k b i = true → 0 ≤ T.fr i
    by_cases e : i = k
    · subst e; intro _; exact hf
    · simp only [upd_other _ _ _ _ e]; exact X.good.gd i
  · rw [out _ (by omega)]; exact X.mp i hi
  · show _ = some (Value.bool (upd T.gd k b i))
    by_cases e : i = k
    · subst e; simp only [upd_same]; rw [World.cell?_setCell_same _ _ _ (X.gd i hk)]
    · simp only [upd_other _ _ _ _ e]; rw [out _ (by omega)]; exact X.gd i hi
  · rw [out _ (by omega)]; exact X.fm i hi
end
end Go.Proofs.Ytoejpdhcibbgdaa

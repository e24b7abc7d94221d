/-
  A POOL AS MEMORY HOLDS IT, the program's and the document's: who holds each frame, promises, bytes.
-/
import Derived.Test.YtoejpdhcibbgdaaTurn
import Derived.Test.YtoejpdhcibbgdaaProg
import Derived.Deep.MidRow
import Derived.WalkKit
namespace Go.Proofs.Ytoejpdhcibbgdaa
open Go.RowKit
set_option linter.unusedSimpArgs false
set_option linter.unusedVariables false

/-- a pool: who holds each frame (-1: nobody), promises (-1: none), bytes -/
structure Po where
  own : Nat → Int
  prom : Nat → Int
  byte : Nat → Nat → Int
structure Po.Good (S : Po) : Prop where
  own : ∀ f, S.own f = -1 ∨ (16 ≤ f ∧ f < 256 ∧ 0 ≤ S.own f ∧ S.own f < 4)
  prom : ∀ o, S.prom o = -1 ∨ (o < 4 ∧ 0 ≤ S.prom o ∧ S.prom o ≤ 64)
  byte : ∀ f a, 0 ≤ S.byte f a ∧ S.byte f a < 256
def pos (x : Int) : Int := if 0 ≤ x then x else 0
def neB (x : Int) : Bool := decide (0 ≤ x)
theorem pos_bd {S : Po} (h : S.Good) (o : Nat) : 0 ≤ pos (S.prom o) ∧ pos (S.prom o) ≤ 64 := by
  unfold pos; rcases h.prom o with h | h <;> split <;> omega
theorem posO_bd {S : Po} (h : S.Good) (o : Nat) : 0 ≤ pos (S.own o) ∧ pos (S.own o) < 4 := by
  unfold pos; rcases h.own o with h | h <;> split <;> omega
def upd {α : Type} (F : Nat → α) (i : Nat) (x : α) : Nat → α := fun j => if j = i then x else F j
@[simp] theorem upd_same {α : Type} (F : Nat → α) (i : Nat) (x : α) : upd F i x i = x := by simp [upd]
theorem upd_other {α : Type} (F : Nat → α) (i j : Nat) (x : α) (h : j ≠ i) : upd F i x j = F j := by simp [upd, h]

/-- the program's pool lies in block g -/
structure IsP (w : World) (g : Nat) (S : Po) : Prop where
  good : S.Good
  z : g < w.heap.size
  hd : ∀ f, f < 256 → w.cell? ⟨g, f * 66, none⟩ = some (.bool (neB (S.own f)))
  ow : ∀ f, f < 256 → w.cell? ⟨g, f * 66 + 1, none⟩ = some (.int .i64 (pos (S.own f)))
  bt : ∀ f, f < 256 → ∀ a, a < 64 → w.cell? ⟨g, f * 66 + 2 + a, none⟩ = some (.int .u8 (S.byte f a))
  md : ∀ o, o < 4 → w.cell? ⟨g, 16896 + o * 2, none⟩ = some (.bool (neB (S.prom o)))
  pr : ∀ o, o < 4 → w.cell? ⟨g, 16896 + o * 2 + 1, none⟩ = some (.int .i64 (pos (S.prom o)))
  fr : ∀ i, w.frozen? ⟨g, i, none⟩ = false
/-- the document's pool lies in block g: its bytes are there, whatever they are -/
structure IsR (w : World) (g : Nat) (S : Po) : Prop where
  good : S.Good
  z : g < w.heap.size
  ow : ∀ f, f < 256 → w.cell? ⟨g, f, none⟩ = some (.int .i64 (S.own f))
  pr : ∀ o, o < 4 → w.cell? ⟨g, 256 + o, none⟩ = some (.int .i64 (S.prom o))
  bt : ∀ i, i < 16384 → (w.cell? ⟨g, 260 + i, none⟩).isSome = true
  fr : ∀ i, w.frozen? ⟨g, i, none⟩ = false

section
variable {w w' : World} {g a b : Nat} {S : Po}
theorem IsP.keep (x : IsP w g S) (h : w'.heap[g]? = w.heap[g]?) : IsP w' g S := by
  have hc : ∀ i, w'.cell? ⟨g, i, none⟩ = w.cell? ⟨g, i, none⟩ := fun i => by simp only [World.cell?, h]
  have hz : g < w'.heap.size := by
    have h1 : w.heap[g]? = some (w.heap[g]'x.z) := Array.getElem?_eq_getElem x.z
    rw [h1] at h
    exact (Array.getElem?_eq_some_iff.1 h).1
  exact ⟨x.good, hz, fun f hf => (hc _).trans (x.hd f hf), fun f hf => (hc _).trans (x.ow f hf), fun f hf a ha => (hc _).trans (x.bt f hf a ha), fun o ho => (hc _).trans (x.md o ho), fun o ho => (hc _).trans (x.pr o ho), fun i => by
    have := x.fr i
    simp only [World.frozen?, h] at this ⊢; exact this⟩
theorem IsR.keep (x : IsR w g S) (h : w'.heap[g]? = w.heap[g]?) : IsR w' g S := by
  have hc : ∀ i, w'.cell? ⟨g, i, none⟩ = w.cell? ⟨g, i, none⟩ := fun i => by simp only [World.cell?, h]
  have hz : g < w'.heap.size := by
    have h1 : w.heap[g]? = some (w.heap[g]'x.z) := Array.getElem?_eq_getElem x.z
    rw [h1] at h
    exact (Array.getElem?_eq_some_iff.1 h).1
  exact ⟨x.good, hz, fun f hf => (hc _).trans (x.ow f hf), fun o ho => (hc _).trans (x.pr o ho), fun i hi => by rw [hc]; exact x.bt i hi, fun i => by
    have := x.fr i
    simp only [World.frozen?, h] at this ⊢; exact this⟩
theorem IsP.below (x : IsP w g S) (hb : Below w.heap.size w w') : IsP w' g S := x.keep (hb.block g x.z)
theorem IsR.below (x : IsR w g S) (hb : Below w.heap.size w w') : IsR w' g S := x.keep (hb.block g x.z)
theorem IsP.turn (x : IsP w g S) (t : Turn a b w w') (h1 : g ≠ a) (h2 : g ≠ b) : IsP w' g S := x.keep (t.block g x.z h1 h2)
theorem IsR.turn (x : IsR w g S) (t : Turn a b w w') (h1 : g ≠ a) (h2 : g ≠ b) : IsR w' g S := x.keep (t.block g x.z h1 h2)

theorem size_setCells (b : Nat) : ∀ (vs : List Value) (o : Nat) (w : World), (w.setCells b o vs).heap.size = w.heap.size
  | [], _, _ => rfl
  | v :: r, o, w => by rw [World.setCells, size_setCells b r]; simp

/-- a frame's cells: who holds it; its bytes are 0 -/
def frC (x : Int) : List Value := .bool (neB x) :: .int .i64 (pos x) :: List.replicate 64 (.int .u8 0)
theorem frC_len (x : Int) : (frC x).length = 66 := by simp [frC]
theorem frC_get (x : Int) (a : Nat) (h : a + 2 < (frC x).length) : (frC x)[a + 2] = .int .u8 0 := by
  have hl := frC_len x
  have : (frC x)[a + 2]? = some (.int .u8 0) := by
    show (List.replicate 64 (Value.int .u8 0))[a]? = _
    rw [List.getElem?_replicate, if_pos (by omega)]
  rw [List.getElem?_eq_getElem h] at this
  exact Option.some.inj this
theorem IsP.setFrame (X : IsP w g S) (f : Nat) (hf : f < 256) (x : Int) (hx : x = -1 ∨ (16 ≤ f ∧ 0 ≤ x ∧ x < 4)) :
    IsP (w.setCells g (f * 66) (frC x)) g { S with own := upd S.own f x, byte := upd S.byte f (fun _ => 0) } := by
  have hin : ∀ j, j < (frC x).length → (w.cell? ⟨g, f * 66 + j, none⟩).isSome = true := fun j hj => by
    rw [frC_len] at hj
    match j, hj with
    | 0, _ => rw [Nat.add_zero, X.hd f hf]; rfl
    | 1, _ => rw [X.ow f hf]; rfl
    | j + 2, hj => rw [show f * 66 + (j + 2) = f * 66 + 2 + j by omega, X.bt f hf j (by omega)]; rfl
  have get : ∀ j, (hj : j < (frC x).length) → (w.setCells g (f * 66) (frC x)).cell? ⟨g, f * 66 + j, none⟩ = some (frC x)[j] := fun j hj => World.cell?_setCells_in g (frC x) (f * 66) w hin j hj
  have out : ∀ i, (i < f * 66 ∨ f * 66 + 66 ≤ i) → (w.setCells g (f * 66) (frC x)).cell? ⟨g, i, none⟩ = w.cell? ⟨g, i, none⟩ := fun i hi =>
    World.cell?_setCells_out g (frC x) (f * 66) w _ (fun _ _ => by rw [frC_len]; exact hi)
  refine ⟨⟨fun k => ?_, X.good.prom, fun k a => ?_⟩, by rw [size_setCells]; exact X.z, fun k hk => ?_, fun k hk => ?_, fun k hk a ha => ?_, fun o ho => ?_, fun o ho => ?_, fun i => by rw [World.frozen?_setCells]; exact X.fr i⟩
  · by_cases e : k = f
    · subst e; simp only [upd_same]; omega
    · simp only [upd_other _ _ _ _ e]; exact X.good.own k
  · by_cases e : k = f
    · subst e; simp
    · simp only [upd_other _ _ _ _ e]; exact X.good.byte k a
  · by_cases e : k = f
    · subst e; simp only [upd_same]
      have := get 0 (by rw [frC_len]; omega)
      simpa [frC] using this
    · simp only [upd_other _ _ _ _ e]; rw [out _ (by omega)]; exact X.hd k hk
  · by_cases e : k = f
    · subst e; simp only [upd_same]
      have := get 1 (by rw [frC_len]; omega)
      simpa [frC] using this
    · simp only [upd_other _ _ _ _ e]; rw [out _ (by omega)]; exact X.ow k hk
  · by_cases e : k = f
    · subst e; simp only [upd_same]
      have := get (a + 2) (by rw [frC_len]; omega)
      rw [show k * 66 + (a + 2) = k * 66 + 2 + a by omega, frC_get] at this
      exact this
    · simp only [upd_other _ _ _ _ e]; rw [out _ (by omega)]; exact X.bt k hk a ha
  · rw [out _ (by omega)]; exact X.md o ho
  · rw [out _ (by omega)]; exact X.pr o ho
theorem IsP.setByte (X : IsP w g S) (f : Nat) (hf : f < 256) (a : Nat) (ha : a < 64) (x : Int) (hx : 0 ≤ x ∧ x < 256) :
    IsP (w.setCell ⟨g, f * 66 + 2 + a, none⟩ (.int .u8 x)) g { S with byte := upd S.byte f (upd (S.byte f) a x) } := by
  have out : ∀ i, i ≠ f * 66 + 2 + a → (w.setCell ⟨g, f * 66 + 2 + a, none⟩ (.int .u8 x)).cell? ⟨g, i, none⟩ = w.cell? ⟨g, i, none⟩ := fun i hi =>
    World.cell?_setCell_other _ _ _ _ (by simp <;> omega)
  refine ⟨⟨X.good.own, X.good.prom, fun k b => ?_⟩, by simpa using X.z, fun k hk => ?_, fun k hk => ?_, fun k hk b hb => ?_, fun o ho => ?_, fun o ho => ?_, fun i => by rw [World.frozen?_setCell]; exact X.fr i⟩
  · by_cases e : k = f
    · subst e; simp only [upd_same]
      by_cases e2 : b = a
      · subst e2; simpa using hx
      · simp only [upd_other _ _ _ _ e2]; exact X.good.byte k b
    · simp only [upd_other _ _ _ _ e]; exact X.good.byte k b
  · rw [out _ (by omega)]; exact X.hd k hk
  · rw [out _ (by omega)]; exact X.ow k hk
  · by_cases e : k = f
    · subst e; simp only [upd_same]
      by_cases e2 : b = a
      · subst e2; simp only [upd_same]; rw [World.cell?_setCell_same _ _ _ (X.bt k hk b hb)]
      · simp only [upd_other _ _ _ _ e2]; rw [out _ (by omega)]; exact X.bt k hk b hb
    · simp only [upd_other _ _ _ _ e]; rw [out _ (by omega)]; exact X.bt k hk b hb
  · rw [out _ (by omega)]; exact X.md o ho
  · rw [out _ (by omega)]; exact X.pr o ho
theorem IsP.setProm (X : IsP w g S) (o : Nat) (ho : o < 4) (x : Int) (hx : x = -1 ∨ (0 ≤ x ∧ x ≤ 64)) (b : Bool) (n : Int) (hb : b = neB x) (hn : n = pos x) :
    IsP ((w.setCell ⟨g, 16896 + o * 2, none⟩ (.bool b)).setCell ⟨g, 16896 + o * 2 + 1, none⟩ (.int .i64 n)) g { S with prom := upd S.prom o x } := by
  subst hb hn
  have out : ∀ i, i ≠ 16896 + o * 2 → i ≠ 16896 + o * 2 + 1 → ((w.setCell ⟨g, 16896 + o * 2, none⟩ (.bool (neB x))).setCell ⟨g, 16896 + o * 2 + 1, none⟩ (.int .i64 (pos x))).cell? ⟨g, i, none⟩ = w.cell? ⟨g, i, none⟩ := fun i h1 h2 => by
    rw [World.cell?_setCell_other _ _ _ _ (by simp <;> omega), World.cell?_setCell_other _ _ _ _ (by simp <;> omega)]
  refine ⟨⟨X.good.own, fun k => ?_, X.good.byte⟩, by simpa using X.z, fun k hk => ?_, fun k hk => ?_, fun k hk b hb => ?_, fun k hk => ?_, fun k hk => ?_, fun i => by rw [World.frozen?_setCell, World.frozen?_setCell]; exact X.fr i⟩
  · by_cases e : k = o
    · subst e; simp only [upd_same]; omega
    · simp only [upd_other _ _ _ _ e]; exact X.good.prom k
  · rw [out _ (by omega) (by omega)]; exact X.hd k hk
  · rw [out _ (by omega) (by omega)]; exact X.ow k hk
  · rw [out _ (by omega) (by omega)]; exact X.bt k hk b hb
  · by_cases e : k = o
    · subst e; simp only [upd_same]
      rw [World.cell?_setCell_other _ _ _ _ (by simp), World.cell?_setCell_same _ _ _ (X.md k hk)]
    · simp only [upd_other _ _ _ _ e]; rw [out _ (by omega) (by omega)]; exact X.md k hk
  · by_cases e : k = o
    · subst e; simp only [upd_same]
      rw [World.cell?_setCell_same (u := .int .i64 (pos (S.prom k))) _ _ _ (by rw [World.cell?_setCell_other _ _ _ _ (by simp)]; exact X.pr k hk)]
    · simp only [upd_other _ _ _ _ e]; rw [out _ (by omega) (by omega)]; exact X.pr k hk
/-- the document's -/
theorem IsR.setOwn (X : IsR w g S) (f : Nat) (hf : f < 256) (x : Int) (hx : x = -1 ∨ (16 ≤ f ∧ 0 ≤ x ∧ x < 4)) (F : Nat → Nat → Int) (hF : ∀ f a, 0 ≤ F f a ∧ F f a < 256) :
    IsR (w.setCell ⟨g, f, none⟩ (.int .i64 x)) g { S with own := upd S.own f x, byte := F } := by
  have out : ∀ i, i ≠ f → (w.setCell ⟨g, f, none⟩ (.int .i64 x)).cell? ⟨g, i, none⟩ = w.cell? ⟨g, i, none⟩ := fun i hi =>
    World.cell?_setCell_other _ _ _ _ (by simp <;> omega)
  refine ⟨⟨fun k => ?_, X.good.prom, hF⟩, by simpa using X.z, fun k hk => ?_, fun k hk => ?_, fun i hi => ?_, fun i => by rw [World.frozen?_setCell]; exact X.fr i⟩
  · by_cases e : k = f
    · subst e; simp only [upd_same]; omega
    · simp only [upd_other _ _ _ _ e]; exact X.good.own k
  · by_cases e : k = f
    · subst e; simp only [upd_same]; rw [World.cell?_setCell_same _ _ _ (X.ow k hk)]
    · simp only [upd_other _ _ _ _ e]; rw [out _ (by omega)]; exact X.ow k hk
  · rw [out _ (by omega)]; exact X.pr k hk
  · rw [out _ (by omega)]; exact X.bt i hi
theorem IsR.setProm (X : IsR w g S) (o : Nat) (ho : o < 4) (x : Int) (hx : x = -1 ∨ (0 ≤ x ∧ x ≤ 64)) :
    IsR (w.setCell ⟨g, 256 + o, none⟩ (.int .i64 x)) g { S with prom := upd S.prom o x } := by
  have out : ∀ i, i ≠ 256 + o → (w.setCell ⟨g, 256 + o, none⟩ (.int .i64 x)).cell? ⟨g, i, none⟩ = w.cell? ⟨g, i, none⟩ := fun i hi =>
    World.cell?_setCell_other _ _ _ _ (by simp <;> omega)
  refine ⟨⟨X.good.own, fun k => ?_, X.good.byte⟩, by simpa using X.z, fun k hk => ?_, fun k hk => ?_, fun i hi => ?_, fun i => by rw [World.frozen?_setCell]; exact X.fr i⟩
  · by_cases e : k = o
    · subst e; simp only [upd_same]; omega
    · simp only [upd_other _ _ _ _ e]; exact X.good.prom k
  · rw [out _ (by omega)]; exact X.ow k hk
  · by_cases e : k = o
    · subst e; simp only [upd_same]; rw [World.cell?_setCell_same _ _ _ (X.pr k hk)]
    · simp only [upd_other _ _ _ _ e]; rw [out _ (by omega)]; exact X.pr k hk
  · rw [out _ (by omega)]; exact X.bt i hi
/-- its bytes are set: nothing of it that is told has turned -/
theorem IsR.setBytes (X : IsR w g S) (i : Nat) (vs : List Value) (hi : i + vs.length ≤ 16384) (F : Nat → Nat → Int) (hF : ∀ f a, 0 ≤ F f a ∧ F f a < 256) : IsR (w.setCells g (260 + i) vs) g { S with byte := F } := by
  have out : ∀ k, k < 260 → (w.setCells g (260 + i) vs).cell? ⟨g, k, none⟩ = w.cell? ⟨g, k, none⟩ := fun k hk =>
    World.cell?_setCells_out g vs (260 + i) w _ (fun _ _ => by simp; omega)
  exact ⟨⟨X.good.own, X.good.prom, hF⟩, by rw [size_setCells]; exact X.z, fun k hk => by rw [out _ (by omega)]; exact X.ow k hk, fun k hk => by rw [out _ (by omega)]; exact X.pr k hk, fun k hk => World.isSome_setCells g vs _ w _ (X.bt k hk), fun k => by rw [World.frozen?_setCells]; exact X.fr k⟩
theorem IsR.setByte (X : IsR w g S) (i : Nat) (hi : i < 16384) (v : Value) (F : Nat → Nat → Int) (hF : ∀ f a, 0 ≤ F f a ∧ F f a < 256) : IsR (w.setCell ⟨g, 260 + i, none⟩ v) g { S with byte := F } := by
  have := X.setBytes i [v] (by simp <;> omega) F hF
  simpa [World.setCells] using this
end
end Go.Proofs.Ytoejpdhcibbgdaa

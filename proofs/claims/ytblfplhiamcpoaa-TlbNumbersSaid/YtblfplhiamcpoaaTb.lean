/-
  A TRANSLATION BUFFER AS A VALUE, and where it lies in memory: the program's and the document's. It imports nothing of the program.
-/
import Derived.Test.YtblfplhiamcpoaaTurn
import Derived.Test.YtblfplhiamcpoaaNum
import Derived.Deep.MidRow
import Derived.WalkKit
namespace Go.Proofs.Ytblfplhiamcpoaa
open Go.RowKit
set_option linter.unusedSimpArgs false
set_option linter.unusedVariables false

def upd {α : Type} (F : Nat → α) (i : Nat) (x : α) : Nat → α := fun j => if j = i then x else F j
@[simp] theorem upd_same {α : Type} (F : Nat → α) (i : Nat) (x : α) : upd F i x i = x := by simp [upd]
theorem upd_other {α : Type} (F : Nat → α) (i j : Nat) (x : α) (h : j ≠ i) : upd F i x j = F j := by simp [upd, h]

/-- an entry: is it one; its page, its frame, its bits -/
structure En where
  v : Bool
  n : Int
  p : Int
  b : Int
def En.cs (e : En) : List Value := [.bool e.v, .int .u32 e.n, .int .u32 e.p, .int .u32 e.b]
def En.ag (e : En) : Value := .agg #[.bool e.v, .int .u32 e.n, .int .u32 e.p, .int .u32 e.b]
def en0 : En := ⟨false, 0, 0, 0⟩
/-- its numbers fit; one that is none is all noughts -/
structure En.Ok (e : En) : Prop where
  n : 0 ≤ e.n ∧ e.n < 4294967296
  p : 0 ≤ e.p ∧ e.p < 4294967296
  b : 0 ≤ e.b ∧ e.b < 4294967296
  z : e.v = false → e = en0
theorem en0_ok : en0.Ok := ⟨⟨by decide, by decide⟩, ⟨by decide, by decide⟩, ⟨by decide, by decide⟩, fun _ => rfl⟩
/-- the slots of a buffer, from cell o of block g on -/
structure IsE (w : World) (g o : Nat) (S : Nat → En) : Prop where
  ok : ∀ i, (S i).Ok
  z : g < w.heap.size
  c0 : ∀ i, i < 16 → w.cell? ⟨g, o + i * 4, none⟩ = some (.bool (S i).v)
  c1 : ∀ i, i < 16 → w.cell? ⟨g, o + i * 4 + 1, none⟩ = some (.int .u32 (S i).n)
  c2 : ∀ i, i < 16 → w.cell? ⟨g, o + i * 4 + 2, none⟩ = some (.int .u32 (S i).p)
  c3 : ∀ i, i < 16 → w.cell? ⟨g, o + i * 4 + 3, none⟩ = some (.int .u32 (S i).b)
  fr : ∀ i, w.frozen? ⟨g, i, none⟩ = false
theorem size_setCells (b : Nat) : ∀ (vs : List Value) (o : Nat) (w : World), (w.setCells b o vs).heap.size = w.heap.size
  | [], _, _ => rfl
  | v :: r, o, w => by rw [World.setCells, size_setCells b r]; simp
section
variable {w w' : World} {g o a b : Nat} {S : Nat → En}
theorem IsE.keep (x : IsE w g o S) (h : w'.heap[g]? = w.heap[g]?) : IsE w' g o S := by
  have hc : ∀ i, w'.cell? ⟨g, i, none⟩ = w.cell? ⟨g, i, none⟩ := fun i => by simp only [World.cell?, h]
  have hz : g < w'.heap.size := by
    have h1 : w.heap[g]? = some (w.heap[g]'x.z) := Array.getElem?_eq_getElem x.z
    rw [h1] at h
    exact (Array.getElem?_eq_some_iff.1 h).1
  exact ⟨x.ok, hz, fun i hi => (hc _).trans (x.c0 i hi), fun i hi => (hc _).trans (x.c1 i hi), fun i hi => (hc _).trans (x.c2 i hi), fun i hi => (hc _).trans (x.c3 i hi), fun i => by
    have := x.fr i
    simp only [World.frozen?, h] at this ⊢; exact this⟩
theorem IsE.below (x : IsE w g o S) (hb : Below w.heap.size w w') : IsE w' g o S := x.keep (hb.block g x.z)
theorem IsE.belowB {B : Nat} (x : IsE w g o S) (hb : Below B w w') (hg : g < B) : IsE w' g o S := x.keep (hb.block g hg)
theorem IsE.drewN (x : IsE w g o S) (n : Nat) : IsE (w.drewN n) g o S := x.below (Below_drewN (Below.refl _ _) n)
theorem IsE.turn (x : IsE w g o S) (t : Turn a b w w') (h1 : g ≠ a) (h2 : g ≠ b) : IsE w' g o S := x.keep (t.block g x.z h1 h2)
theorem cell_any {w : World} {g o : Nat} {L : List Value} (h : ∀ j u, L[j]? = some u → w.cell? ⟨g, o + j, none⟩ = some u) (j : Nat) (hj : j < L.length) : w.cell? ⟨g, o + j, none⟩ = some L[j] := h j _ (List.getElem?_eq_getElem hj)
theorem IsE.there (x : IsE w g o S) (i : Nat) (hi : i < 16) : w.there g (o + i * 4) 4 := fun j hj => by
  refine ⟨?_, x.fr _⟩
  match j, hj with
  | 0, _ => rw [Nat.add_zero, x.c0 i hi]; rfl
  | 1, _ => rw [x.c1 i hi]; rfl
  | 2, _ => rw [x.c2 i hi]; rfl
  | 3, _ => rw [x.c3 i hi]; rfl
/-- a slot is set -/
theorem IsE.set (x : IsE w g o S) (i : Nat) (hi : i < 16) (e : En) (he : e.Ok) : IsE (w.setCells g (o + i * 4) e.cs) g o (upd S i e) := by
  have hin : ∀ j, j < e.cs.length → (w.cell? ⟨g, o + i * 4 + j, none⟩).isSome = true := fun j hj => (x.there i hi j hj).1
  have get : ∀ j, (hj : j < e.cs.length) → (w.setCells g (o + i * 4) e.cs).cell? ⟨g, o + i * 4 + j, none⟩ = some e.cs[j] := fun j hj => World.cell?_setCells_in g e.cs (o + i * 4) w hin j hj
  have out : ∀ k, (k < o + i * 4 ∨ o + i * 4 + 4 ≤ k) → (w.setCells g (o + i * 4) e.cs).cell? ⟨g, k, none⟩ = w.cell? ⟨g, k, none⟩ := fun k hk =>
    World.cell?_setCells_out g e.cs (o + i * 4) w _ (fun _ _ => hk)
  refine ⟨fun k => ?_, by rw [size_setCells]; exact x.z, fun k hk => ?_, fun k hk => ?_, fun k hk => ?_, fun k hk => ?_, fun k => by rw [World.frozen?_setCells]; exact x.fr k⟩
  · by_cases h : k = i
    · subst h; rw [upd_same]; exact he
    · rw [upd_other _ _ _ _ h]; exact x.ok k
  · by_cases h : k = i
    · subst h; rw [upd_same]; exact get 0 (by simp [En.cs])
    · rw [upd_other _ _ _ _ h, out _ (by omega)]; exact x.c0 k hk
  · by_cases h : k = i
    · subst h; rw [upd_same]; exact get 1 (by simp [En.cs])
    · rw [upd_other _ _ _ _ h, out _ (by omega)]; exact x.c1 k hk
  · by_cases h : k = i
    · subst h; rw [upd_same]; exact get 2 (by simp [En.cs])
    · rw [upd_other _ _ _ _ h, out _ (by omega)]; exact x.c2 k hk
  · by_cases h : k = i
    · subst h; rw [upd_same]; exact get 3 (by simp [En.cs])
    · rw [upd_other _ _ _ _ h, out _ (by omega)]; exact x.c3 k hk
end
/-- sixteen empty slots -/
def zs16 : Nat → List Value
  | 0 => []
  | n + 1 => en0.cs ++ zs16 n
theorem zs16_len (n : Nat) : (zs16 n).length = n * 4 := by
  induction n with
  | zero => rfl
  | succ n ih => rw [zs16, List.length_append, ih, Nat.succ_mul]; show 4 + n * 4 = _; omega
theorem zs16_get : ∀ (n i j : Nat), i < n → j < 4 → (zs16 n)[i * 4 + j]? = en0.cs[j]?
  | n + 1, 0, j, _, hj => by rw [zs16, Nat.zero_mul, Nat.zero_add, List.getElem?_append_left (by simpa [En.cs] using hj)]
  | n + 1, i + 1, j, h, hj => by
    have hl : en0.cs.length = 4 := rfl
    rw [zs16, List.getElem?_append_right (by rw [hl]; omega), hl, show (i + 1) * 4 + j - 4 = i * 4 + j by omega]
    exact zs16_get n i j (by omega) hj
theorem zs16_one (n : Nat) : ∀ v ∈ zs16 n, v.oneCell' = true := by
  induction n with
  | zero => intro v hv; cases hv
  | succ n ih =>
    intro v hv
    rw [zs16, List.mem_append] at hv
    rcases hv with hv | hv
    · simp [En.cs, en0] at hv
      rcases hv with rfl | rfl <;> rfl
    · exact ih v hv
section
variable {w w' : World} {g o : Nat} {S : Nat → En}
theorem IsE.all (x : IsE w g o S) : w.there g o 64 := fun j hj => by
  have h := x.there (j / 4) (by omega) (j % 4) (by omega)
  rw [show o + j / 4 * 4 + j % 4 = o + j by omega] at h
  exact h
/-- all slots are emptied -/
theorem IsE.clear (x : IsE w g o S) : IsE (w.setCells g o (zs16 16)) g o (fun _ => en0) := by
  have hl : (zs16 16).length = 64 := zs16_len 16
  have get : ∀ i, i < 16 → ∀ j, j < 4 → (w.setCells g o (zs16 16)).cell? ⟨g, o + i * 4 + j, none⟩ = en0.cs[j]? := fun i hi j hj => by
    have hk : i * 4 + j < (zs16 16).length := by omega
    rw [Nat.add_assoc, World.cell?_setCells_in g (zs16 16) o w (fun k hk => (x.all k (by omega)).1) (i * 4 + j) hk, ← List.getElem?_eq_getElem hk]
    exact zs16_get 16 i j hi hj
  exact ⟨fun _ => en0_ok, by rw [size_setCells]; exact x.z, fun i hi => get i hi 0 (by omega), fun i hi => get i hi 1 (by omega), fun i hi => get i hi 2 (by omega), fun i hi => get i hi 3 (by omega), fun i => by rw [World.frozen?_setCells]; exact x.fr i⟩
end
/-- a block that holds sixteen empty slots behind o cells -/
theorem isE_blk {w : World} {g : Nat} {t : TypeId} (L : List Value) (h : Blk w g t (L ++ zs16 16).toArray) : IsE w g L.length (fun _ => en0) := by
  have get : ∀ i, i < 16 → ∀ j, j < 4 → w.cell? ⟨g, L.length + i * 4 + j, none⟩ = en0.cs[j]? := fun i hi j hj => by
    rw [h.cell, List.getElem?_toArray, Nat.add_assoc, List.getElem?_append_right (by omega), Nat.add_sub_cancel_left]
    exact zs16_get 16 i j hi hj
  exact ⟨fun _ => en0_ok, h.lt, fun i hi => get i hi 0 (by omega), fun i hi => get i hi 1 (by omega), fun i hi => get i hi 2 (by omega), fun i hi => get i hi 3 (by omega), h.frozen⟩

/-! ### what the document says -/
/-- the slot of a page -/
def sl (n : Int) : Nat := (n % 16).toNat
theorem sl_lt (n : Int) : sl n < 16 := by unfold sl; omega
theorem sl_cast (n : Int) : ((sl n : Nat) : Int) = n % 16 := by unfold sl; omega
/-- what bits a kind needs -/
def nd0 (k : Int) : Int := if k = 1 then 8 else if k = 2 then 2 else if k = 3 then 68 else 0
def nd (k : Int) (s : Bool) : Int := if k = 1 ∨ k = 2 ∨ k = 3 then (if s = true then nd0 k else nd0 k + 16) else 0
theorem nd_bd (k : Int) (s : Bool) : 0 ≤ nd k s ∧ nd k s < 128 := by
  unfold nd nd0
  split
  · split <;> (split <;> (try omega)) <;> (split <;> (try omega)) <;> (split <;> omega)
  · omega
theorem nd_zero (k : Int) (s : Bool) : nd k s = 0 ↔ ¬ (k = 1 ∨ k = 2 ∨ k = 3) := by
  unfold nd nd0
  constructor
  · intro h hk
    rcases hk with rfl | rfl | rfl <;> cases s <;> simp at h
  · intro h; rw [if_neg h]
/-- does an access find an entry? -/
def fB (e : En) (va k : Int) (s : Bool) : Bool := e.v && decide (e.n = va / 64) && decide (nd k s ≠ 0) && decide (bits .and .u32 e.b (nd k s) = nd k s)
/-- where it goes -/
def fA (e : En) (va : Int) : Int := (e.p * 64 + va % 64) % 4294967296
def fV (e : En) (va k : Int) (s : Bool) : Int := if fB e va k s = true then fA e va else 0
theorem fA_bd (e : En) (va : Int) : 0 ≤ fA e va ∧ fA e va < 4294967296 := by unfold fA; omega
/-- Fill, Drop -/
def fillS (S : Nat → En) (e : En) : Nat → En := if e.v = true then upd S (sl e.n) e else S
def dropS (S : Nat → En) (va : Int) : Nat → En := if (S (sl (va / 64))).v = true ∧ (S (sl (va / 64))).n = va / 64 then upd S (sl (va / 64)) en0 else S
/-- how many of the first n are not empty -/
def cntE (S : Nat → En) : Nat → Nat
  | 0 => 0
  | n + 1 => cntE S n + (if (S n).v = true then 1 else 0)
theorem cntE_le (S : Nat → En) (n : Nat) : cntE S n ≤ n := by
  induction n with
  | zero => simp [cntE]
  | succ n ih => unfold cntE; split <;> omega
end Go.Proofs.Ytblfplhiamcpoaa

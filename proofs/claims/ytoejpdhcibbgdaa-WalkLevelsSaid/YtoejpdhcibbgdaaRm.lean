/-
  A GUEST's MEMORY AS A VALUE, and where it lies: on a pool, with a table (stages 5, 6).
-/
import Derived.Test.YtoejpdhcibbgdaaTo
namespace Go.Proofs.Ytoejpdhcibbgdaa
open Go.RowKit
set_option linter.unusedSimpArgs false
set_option linter.unusedVariables false

/-- a memory's blocks: its pool, its table, the table's pages, itself, its turned pages -/
structure Bl where
  g : Nat
  h : Nat
  r : Nat
  m : Nat
  u : Nat
/-- a memory: how many pages, its bytes, which pages are mapped, which have turned -/
structure Rm where
  n : Nat
  b : Nat → Int
  mp : Nat → Bool
  tu : Nat → Bool
/-- a byte, by the table and the pool -/
def btV (S : Po) (T : Ta) (a : Nat) : Int := if neB (T.fr (a / 64)) = true then S.byte (T.fr (a / 64)).toNat (a % 64) else 0
structure Inn (w : World) (p : Bl) (X : Rm) (S : Po) (T : Ta) : Prop where
  ip : IsP w p.g S
  it : IsT w p.g p.h p.r T
  j : Joint S T
  k : S.Ok
  n : T.n = X.n
  mp : ∀ k, k < X.n → X.mp k = neB (T.fr k)
  b : ∀ a, a < X.n * 64 → X.b a = btV S T a
structure IsM (w : World) (p : Bl) (X : Rm) : Prop where
  inn : ∃ S T, Inn w p X S T
  gm : p.g ≠ p.m
  hm : p.h ≠ p.m
  rm : p.r ≠ p.m
  gu : p.g ≠ p.u
  hu : p.h ≠ p.u
  ru : p.r ≠ p.u
  mu : p.m ≠ p.u
  zm : p.m < w.heap.size
  zu : p.u < w.heap.size
  c0 : w.cell? ⟨p.m, 0, none⟩ = some (.pointer (some ⟨p.g, 0, none⟩))
  c1 : w.cell? ⟨p.m, 1, none⟩ = some (.pointer (some ⟨p.h, 0, none⟩))
  c2 : w.cell? ⟨p.m, 2, none⟩ = some (.slice (some ⟨p.u, 0, none⟩) X.n X.n)
  ut : ∀ k, k < X.n → w.cell? ⟨p.u, k, none⟩ = some (.bool (X.tu k))
  uf : ∀ i, w.frozen? ⟨p.u, i, none⟩ = false
/-- nothing has turned but the pool, the table's pages, the turned ones, and new blocks -/
structure Alt (p : Bl) (w w' : World) : Prop where
  os : w'.os = w.os
  tape : w'.tape = w.tape
  output : w'.output = w.output
  size : w.heap.size ≤ w'.heap.size
  block : ∀ k, k < w.heap.size → k ≠ p.g → k ≠ p.r → k ≠ p.u → w'.heap[k]? = w.heap[k]?
section
variable {w w' w'' : World} {p q : Bl} {X : Rm} {S : Po} {T : Ta}
theorem Alt.refl (p : Bl) (w : World) : Alt p w w := ⟨rfl, rfl, rfl, Nat.le_refl _, fun _ _ _ _ _ => rfl⟩
theorem Alt.trans (x : Alt p w w') (y : Alt p w' w'') : Alt p w w'' :=
  ⟨y.os.trans x.os, y.tape.trans x.tape, y.output.trans x.output, Nat.le_trans x.size y.size, fun i hi h1 h2 h3 => (y.block i (Nat.lt_of_lt_of_le hi x.size) h1 h2 h3).trans (x.block i hi h1 h2 h3)⟩
theorem Alt.of_below (hb : Below w.heap.size w w') : Alt p w w' := ⟨hb.os, hb.tape, hb.output, hb.size, fun i hi _ _ _ => hb.block i hi⟩
theorem Alt.of_turn (t : Turn p.g p.r w w') : Alt p w w' := ⟨t.os, t.tape, t.output, t.size, fun i hi h1 h2 _ => t.block i hi h1 h2⟩
theorem Alt.of_turnP (t : Turn p.g p.g w w') : Alt p w w' := .of_turn t.wide
theorem Alt.setU (x : Alt p w w') (i : Nat) (v : Value) : Alt p w (w'.setCell ⟨p.u, i, none⟩ v) :=
  ⟨x.os, x.tape, x.output, by simpa using x.size, fun j hj h1 h2 h3 => (Below.heap_setCell w' ⟨p.u, i, none⟩ v j h3).trans (x.block j hj h1 h2 h3)⟩
theorem Alt.below {B : Nat} {w0 : World} (x : Alt p w w') (hg : B ≤ p.g) (hr : B ≤ p.r) (hu : B ≤ p.u) (hb : Below B w0 w) (hB : B ≤ w.heap.size) : Below B w0 w' :=
  ⟨x.os.trans hb.os, x.tape.trans hb.tape, x.output.trans hb.output, Nat.le_trans hb.size x.size, fun i hi => (x.block i (by omega) (by omega) (by omega) (by omega)).trans (hb.block i hi)⟩
theorem Alt.cell (x : Alt p w w') {a : Addr} (ha : a.block < w.heap.size) (h1 : a.block ≠ p.g) (h2 : a.block ≠ p.r) (h3 : a.block ≠ p.u) : w'.cell? a = w.cell? a := by
  simp only [World.cell?, x.block _ ha h1 h2 h3]
theorem Alt.frozen (x : Alt p w w') {a : Addr} (ha : a.block < w.heap.size) (h1 : a.block ≠ p.g) (h2 : a.block ≠ p.r) (h3 : a.block ≠ p.u) : w'.frozen? a = w.frozen? a := by
  simp only [World.frozen?, x.block _ ha h1 h2 h3]
theorem lt_of_same {i : Nat} (h : i < w.heap.size) (e : w'.heap[i]? = w.heap[i]?) : i < w'.heap.size := by
  rw [Array.getElem?_eq_getElem h] at e
  exact (Array.getElem?_eq_some_iff.1 e).1
theorem Inn.keep (x : Inn w p X S T) (e1 : w'.heap[p.g]? = w.heap[p.g]?) (e2 : w'.heap[p.h]? = w.heap[p.h]?) (e3 : w'.heap[p.r]? = w.heap[p.r]?) : Inn w' p X S T :=
  ⟨x.ip.keep e1, x.it.keep e2 e3, x.j, x.k, x.n, x.mp, x.b⟩
theorem Inn.tu (x : Inn w p X S T) (f : Nat → Bool) : Inn w p { X with tu := f } S T := ⟨x.ip, x.it, x.j, x.k, x.n, x.mp, x.b⟩
theorem Inn.setU (x : Inn w p X S T) (hg : p.g ≠ p.u) (hh : p.h ≠ p.u) (hr : p.r ≠ p.u) (i : Nat) (v : Value) : Inn (w.setCell ⟨p.u, i, none⟩ v) p X S T :=
  x.keep (Below.heap_setCell _ _ _ _ hg) (Below.heap_setCell _ _ _ _ hh) (Below.heap_setCell _ _ _ _ hr)
theorem IsM.keep (x : IsM w p X) (e1 : w'.heap[p.g]? = w.heap[p.g]?) (e2 : w'.heap[p.h]? = w.heap[p.h]?) (e3 : w'.heap[p.r]? = w.heap[p.r]?) (e4 : w'.heap[p.m]? = w.heap[p.m]?) (e5 : w'.heap[p.u]? = w.heap[p.u]?) : IsM w' p X := by
  obtain ⟨S, T, i⟩ := x.inn
  have c4 : ∀ i, w'.cell? ⟨p.m, i, none⟩ = w.cell? ⟨p.m, i, none⟩ := fun i => by simp only [World.cell?, e4]
  have c5 : ∀ i, w'.cell? ⟨p.u, i, none⟩ = w.cell? ⟨p.u, i, none⟩ := fun i => by simp only [World.cell?, e5]
  exact ⟨⟨S, T, i.keep e1 e2 e3⟩, x.gm, x.hm, x.rm, x.gu, x.hu, x.ru, x.mu, lt_of_same x.zm e4, lt_of_same x.zu e5, (c4 _).trans x.c0, (c4 _).trans x.c1, (c4 _).trans x.c2, fun k hk => (c5 _).trans (x.ut k hk), fun i => by
    have := x.uf i
    simp only [World.frozen?, e5] at this ⊢; exact this⟩
theorem Inn.zg (x : Inn w p X S T) : p.g < w.heap.size := x.ip.z
theorem IsM.z (x : IsM w p X) : p.g < w.heap.size ∧ p.h < w.heap.size ∧ p.r < w.heap.size ∧ p.m < w.heap.size ∧ p.u < w.heap.size := by
  obtain ⟨S, T, i⟩ := x.inn
  exact ⟨i.ip.z, i.it.zh, i.it.zr, x.zm, x.zu⟩
theorem IsM.below (x : IsM w p X) (hb : Below w.heap.size w w') : IsM w' p X :=
  x.keep (hb.block _ x.z.1) (hb.block _ x.z.2.1) (hb.block _ x.z.2.2.1) (hb.block _ x.zm) (hb.block _ x.zu)
theorem IsM.drewN (x : IsM w p X) (n : Nat) : IsM (w.drewN n) p X := x.below (Below_drewN (Below.refl _ _) n)
/-- another memory's turns leave it -/
structure Apart (p q : Bl) : Prop where
  g : p.g ≠ q.g ∧ p.g ≠ q.r ∧ p.g ≠ q.u
  h : p.h ≠ q.g ∧ p.h ≠ q.r ∧ p.h ≠ q.u
  r : p.r ≠ q.g ∧ p.r ≠ q.r ∧ p.r ≠ q.u
  m : p.m ≠ q.g ∧ p.m ≠ q.r ∧ p.m ≠ q.u
  u : p.u ≠ q.g ∧ p.u ≠ q.r ∧ p.u ≠ q.u
theorem IsM.alt (x : IsM w p X) (a : Apart p q) (y : Alt q w w') : IsM w' p X :=
  x.keep (y.block _ x.z.1 a.g.1 a.g.2.1 a.g.2.2) (y.block _ x.z.2.1 a.h.1 a.h.2.1 a.h.2.2) (y.block _ x.z.2.2.1 a.r.1 a.r.2.1 a.r.2.2) (y.block _ x.zm a.m.1 a.m.2.1 a.m.2.2) (y.block _ x.zu a.u.1 a.u.2.1 a.u.2.2)
theorem IsM.n1 (x : IsM w p X) : 1 ≤ X.n ∧ X.n ≤ 64 := by
  obtain ⟨S, T, i⟩ := x.inn
  have h1 := i.it.good.n0
  have h2 := i.it.good.n1
  rw [i.n] at h1 h2
  exact ⟨h1, h2⟩
theorem IsM.bd (x : IsM w p X) (a : Nat) (ha : a < X.n * 64) : 0 ≤ X.b a ∧ X.b a < 256 := by
  obtain ⟨S, T, i⟩ := x.inn
  rw [i.b a ha]; unfold btV
  split
  · exact i.ip.good.byte _ _
  · omega
theorem IsM.zero (x : IsM w p X) (a : Nat) (ha : a < X.n * 64) (hm : X.mp (a / 64) = false) : X.b a = 0 := by
  obtain ⟨S, T, i⟩ := x.inn
  rw [i.mp _ (by omega)] at hm
  rw [i.b a ha]; unfold btV
  rw [hm]; rfl
/-- the same, told otherwise -/
theorem IsM.cast {Y : Rm} (x : IsM w p X) (hn : Y.n = X.n) (hb : ∀ a, a < X.n * 64 → Y.b a = X.b a) (hm : ∀ k, k < X.n → Y.mp k = X.mp k) (ht : ∀ k, k < X.n → Y.tu k = X.tu k) : IsM w p Y := by
  obtain ⟨S, T, i⟩ := x.inn
  exact ⟨⟨S, T, i.ip, i.it, i.j, i.k, by rw [hn]; exact i.n, fun k hk => by rw [hn] at hk; rw [hm k hk]; exact i.mp k hk, fun a ha => by rw [hn] at ha; rw [hb a ha]; exact i.b a ha⟩, x.gm, x.hm, x.rm, x.gu, x.hu, x.ru, x.mu, x.zm, x.zu, x.c0, x.c1, by rw [hn]; exact x.c2, fun k hk => by rw [hn] at hk; rw [ht k hk]; exact x.ut k hk, x.uf⟩
end
/-! ### what is done to it, by value -/
/-- a page is mapped if x is not 0 -/
def Rm.m1 (X : Rm) (a : Nat) (x : Int) : Rm := { X with mp := upd X.mp (a / 64) (X.mp (a / 64) || decide (x ≠ 0)) }
/-- a byte is set -/
def Rm.w1 (X : Rm) (a : Nat) (x : Int) : Rm := { X with b := upd X.b a x, tu := upd X.tu (a / 64) true }
def Rm.ms (X : Rm) (a : Nat) (L : List Int) : Nat → Rm
  | 0 => X
  | i + 1 => (X.ms a L i).m1 (a + i) (L.getD i 0)
def Rm.ws (X : Rm) (a : Nat) (L : List Int) : Nat → Rm
  | 0 => X
  | i + 1 => (X.ws a L i).w1 (a + i) (L.getD i 0)
/-- the bytes of L are written from a on -/
def Rm.wr (X : Rm) (a : Nat) (L : List Int) : Rm := (X.ms a L L.length).ws a L L.length
section
variable (X : Rm) (a : Nat) (L : List Int)
theorem ms_n : ∀ i, (X.ms a L i).n = X.n
  | 0 => rfl
  | i + 1 => ms_n i
theorem ms_b : ∀ i, (X.ms a L i).b = X.b
  | 0 => rfl
  | i + 1 => ms_b i
theorem ms_tu : ∀ i, (X.ms a L i).tu = X.tu
  | 0 => rfl
  | i + 1 => ms_tu i
theorem ws_n : ∀ i, (X.ws a L i).n = X.n
  | 0 => rfl
  | i + 1 => ws_n i
theorem ws_mp : ∀ i, (X.ws a L i).mp = X.mp
  | 0 => rfl
  | i + 1 => ws_mp i
theorem ms_mp (k : Nat) : ∀ i, (X.ms a L i).mp k = true ↔ X.mp k = true ∨ ∃ t, t < i ∧ (a + t) / 64 = k ∧ L.getD t 0 ≠ 0
  | 0 => by simp [Rm.ms]
  | i + 1 => by
    have ih := ms_mp k i
    show upd (X.ms a L i).mp ((a + i) / 64) ((X.ms a L i).mp ((a + i) / 64) || decide (L.getD i 0 ≠ 0)) k = true ↔ _
    by_cases e : k = (a + i) / 64
    · subst e
      rw [upd_same, Bool.or_eq_true, ih, decide_eq_true_eq]
      constructor
      · rintro ((h | ⟨t, h1, h2, h3⟩) | h)
        · exact .inl h
        · exact .inr ⟨t, by omega, h2, h3⟩
        · exact .inr ⟨i, by omega, rfl, h⟩
      · rintro (h | ⟨t, h1, h2, h3⟩)
        · exact .inl (.inl h)
        · by_cases et : t = i
          · subst et; exact .inr h3
          · exact .inl (.inr ⟨t, by omega, h2, h3⟩)
    · rw [upd_other _ _ _ _ e, ih]
      constructor
      · rintro (h | ⟨t, h1, h2, h3⟩)
        · exact .inl h
        · exact .inr ⟨t, by omega, h2, h3⟩
      · rintro (h | ⟨t, h1, h2, h3⟩)
        · exact .inl h
        · refine .inr ⟨t, ?_, h2, h3⟩
          by_cases et : t = i
          · subst et; exact absurd h2.symm e
          · omega
theorem ws_b (j : Nat) : ∀ i, (X.ws a L i).b j = if a ≤ j ∧ j < a + i then L.getD (j - a) 0 else X.b j
  | 0 => by rw [if_neg (by omega)]; rfl
  | i + 1 => by
    have ih := ws_b j i
    show upd (X.ws a L i).b (a + i) (L.getD i 0) j = _
    by_cases e : j = a + i
    · subst e
      rw [upd_same, if_pos (by omega), show a + i - a = i by omega]
    · rw [upd_other _ _ _ _ e, ih]
      by_cases h : a ≤ j ∧ j < a + i
      · rw [if_pos h, if_pos (by omega)]
      · rw [if_neg h, if_neg (by omega)]
theorem ws_tu (k : Nat) : ∀ i, (X.ws a L i).tu k = true ↔ X.tu k = true ∨ ∃ t, t < i ∧ (a + t) / 64 = k
  | 0 => by simp [Rm.ws]
  | i + 1 => by
    have ih := ws_tu k i
    show upd (X.ws a L i).tu ((a + i) / 64) true k = true ↔ _
    by_cases e : k = (a + i) / 64
    · subst e
      rw [upd_same]
      exact ⟨fun _ => .inr ⟨i, by omega, rfl⟩, fun _ => rfl⟩
    · rw [upd_other _ _ _ _ e, ih]
      constructor
      · rintro (h | ⟨t, h1, h2⟩)
        · exact .inl h
        · exact .inr ⟨t, by omega, h2⟩
      · rintro (h | ⟨t, h1, h2⟩)
        · exact .inl h
        · refine .inr ⟨t, ?_, h2⟩
          by_cases et : t = i
          · subst et; exact absurd h2.symm e
          · omega
theorem wr_n : (X.wr a L).n = X.n := (ws_n _ _ _ _).trans (ms_n _ _ _ _)
theorem wr_b (j : Nat) : (X.wr a L).b j = if a ≤ j ∧ j < a + L.length then L.getD (j - a) 0 else X.b j := by
  unfold Rm.wr; rw [ws_b, ms_b]
theorem wr_mp (k : Nat) : (X.wr a L).mp k = true ↔ X.mp k = true ∨ ∃ t, t < L.length ∧ (a + t) / 64 = k ∧ L.getD t 0 ≠ 0 := by
  unfold Rm.wr; rw [ws_mp, ms_mp]
theorem wr_tu (k : Nat) : (X.wr a L).tu k = true ↔ X.tu k = true ∨ ∃ t, t < L.length ∧ (a + t) / 64 = k := by
  unfold Rm.wr; rw [ws_tu, ms_tu]
end
/-- a new memory -/
def rm0 (n : Nat) : Rm := ⟨n, fun _ => 0, fun _ => false, fun _ => false⟩
/-- what stays of a row that lies elsewhere -/
theorem own_kept {w w' : World} {B : Nat} {e : TypeId} {size n : Nat} {v : Value} {xs : List Value} (h : w.ownsRow B e size v n xs) (hk : ∀ g, v.ownBlock = some g → w'.heap[g]? = w.heap[g]?) : w'.ownsRow B e size v n xs := by
  refine ⟨h.1, ?_⟩
  rcases h.2 with h1 | ⟨g, cap, cur, rfl, h2, h3, h4⟩
  · exact .inl h1
  · exact .inr ⟨g, cap, cur, rfl, h2, (hk g rfl).trans h3, h4⟩
end Go.Proofs.Ytoejpdhcibbgdaa

/-
  A MACHINE AS MEMORY HOLDS IT: registers, words, code, place; and what a step makes of it.
-/
import Derived.Test.YtaghblcboimbpaaMr
import Derived.Test.YtaghblcboimbpaaHp
namespace Go.Proofs.Ytaghblcboimbpaa
open Go.RowKit
set_option linter.unusedSimpArgs false
set_option linter.unusedVariables false

/-- a machine -/
structure Mc where
  R : List Int
  W : List Int
  C : List Hi
  p : Int
/-- its numbers are in order -/
structure Mc.Good (m : Mc) : Prop where
  r : m.R.length = 16
  ru : ∀ x ∈ m.R, U64 x
  w0 : 0 < m.W.length
  w1 : m.W.length ≤ 65536
  wu : ∀ x ∈ m.W, 0 ≤ x ∧ x < 4294967296
  c : ∀ q ∈ m.C, q.Ok
  cl : m.C.length ≤ 1000
  p0 : 0 ≤ m.p
  p1 : m.p < 4294967296
/-- where it lies: its block, its words' block, its code -/
structure Mp where
  g : Nat
  gw : Nat
  A : Option Addr
  cc : Nat
def mcs (k : IntKind) (vw vc : Value) (R : List Int) (p : Int) : List Value := R.map (Value.int .u64) ++ [vw, vc, .int k p]
def vws (P : Mp) (m : Mc) : Value := .slice (some ⟨P.gw, 0, none⟩) m.W.length m.W.length
def vcs (P : Mp) (m : Mc) : Value := .slice P.A m.C.length P.cc
/-- the machine m lies at P; what lies from block B on is code -/
structure IsM (k : IntKind) (T : TypeId) (B : Nat) (w : World) (P : Mp) (m : Mc) : Prop where
  good : m.Good
  blk : Blk w P.g T (mcs k (vws P m) (vcs P m) m.R m.p).toArray
  wrd : Blk w P.gw 33 (m.W.map (Value.int .u32)).toArray
  ne : P.g ≠ P.gw
  lg : P.g < B
  lw : P.gw < B
  code : w.ownsRow B 35 5 (vcs P m) m.C.length (ivs m.C)

/-- nothing has turned but what lies in blocks g and h, and new blocks -/
structure Turn (g h : Nat) (w w' : World) : Prop where
  os : w'.os = w.os
  tape : w'.tape = w.tape
  output : w'.output = w.output
  size : w.heap.size ≤ w'.heap.size
  block : ∀ k, k < w.heap.size → k ≠ g → k ≠ h → w'.heap[k]? = w.heap[k]?

section
variable {k : IntKind} {T : TypeId} {B : Nat} {w w' w'' : World} {P Q : Mp} {m : Mc} {g h : Nat}
theorem Turn.refl (g h : Nat) (w : World) : Turn g h w w := ⟨rfl, rfl, rfl, Nat.le_refl _, fun _ _ _ _ => rfl⟩
theorem Turn.trans (x : Turn g h w w') (y : Turn g h w' w'') : Turn g h w w'' :=
  ⟨y.os.trans x.os, y.tape.trans x.tape, y.output.trans x.output, Nat.le_trans x.size y.size, fun i hi h1 h2 => (y.block i (Nat.lt_of_lt_of_le hi x.size) h1 h2).trans (x.block i hi h1 h2)⟩
theorem Turn.of_below (hb : Below w.heap.size w w') : Turn g h w w' := ⟨hb.os, hb.tape, hb.output, hb.size, fun i hi _ _ => hb.block i hi⟩
theorem Turn.setG (x : Turn g h w w') (i : Nat) (u : Value) : Turn g h w (w'.setCell ⟨g, i, none⟩ u) :=
  ⟨x.os, x.tape, x.output, by simpa using x.size, fun j hj h1 h2 => (Below.heap_setCell w' ⟨g, i, none⟩ u j h1).trans (x.block j hj h1 h2)⟩
theorem Turn.setH (x : Turn g h w w') (i : Nat) (u : Value) : Turn g h w (w'.setCell ⟨h, i, none⟩ u) :=
  ⟨x.os, x.tape, x.output, by simpa using x.size, fun j hj h1 h2 => (Below.heap_setCell w' ⟨h, i, none⟩ u j h2).trans (x.block j hj h1 h2)⟩
/-- what lies above B is new to what was before: the frame of a call -/
theorem Turn.below {B : Nat} {w0 : World} (x : Turn g h w w') (hg : B ≤ g) (hh : B ≤ h) (hb : Below B w0 w) (hB : B ≤ w.heap.size) : Below B w0 w' :=
  ⟨x.os.trans hb.os, x.tape.trans hb.tape, x.output.trans hb.output, Nat.le_trans hb.size x.size, fun i hi => (x.block i (by omega) (by omega) (by omega)).trans (hb.block i hi)⟩

theorem own_keep {B : Nat} {e : TypeId} {size : Nat} {v : Value} {n : Nat} {xs : List Value} (h : w.ownsRow B e size v n xs) (hk : ∀ i, B ≤ i → i < w.heap.size → w'.heap[i]? = w.heap[i]?) : w'.ownsRow B e size v n xs := by
  refine ⟨h.1, ?_⟩
  rcases h.2 with h1 | ⟨g, cap, cur, h1, h2, h3, r⟩
  · exact .inl h1
  · exact .inr ⟨g, cap, cur, h1, h2, (hk g h2 (Array.getElem?_eq_some_iff.1 h3).1).trans h3, r⟩
theorem IsM.keep (x : IsM k T B w P m) (hk : ∀ i, (i = P.g ∨ i = P.gw ∨ B ≤ i) → i < w.heap.size → w'.heap[i]? = w.heap[i]?) : IsM k T B w' P m :=
  ⟨x.good, (hk _ (.inl rfl) x.blk.lt).trans x.blk, (hk _ (.inr (.inl rfl)) x.wrd.lt).trans x.wrd, x.ne, x.lg, x.lw, own_keep x.code fun i hi => hk i (.inr (.inr hi))⟩
theorem IsM.below (x : IsM k T B w P m) (hb : Below w.heap.size w w') : IsM k T B w' P m := x.keep fun i _ hi => hb.block i hi
theorem IsM.turn (x : IsM k T B w P m) (t : Turn g h w w') (h1 : P.g ≠ g) (h2 : P.g ≠ h) (h3 : P.gw ≠ g) (h4 : P.gw ≠ h) (h5 : g < B) (h6 : h < B) : IsM k T B w' P m :=
  x.keep fun i hi hl => t.block i hl (by rcases hi with rfl | rfl | hi <;> omega) (by rcases hi with rfl | rfl | hi <;> omega)

theorem mcs_len {vw vc : Value} {R : List Int} {p : Int} (h : R.length = 16) : (mcs k vw vc R p).length = 19 := by simp [mcs, h]
theorem mcs_reg {vw vc : Value} {R : List Int} {p : Int} (h : R.length = 16) (i : Nat) (hi : i < 16) : (mcs k vw vc R p)[i]? = some (.int .u64 (R.getD i 0)) := by
  unfold mcs
  rw [List.getElem?_append_left (by simp [h]; exact hi)]
  simp [List.getD, List.getElem?_eq_getElem (show i < R.length by omega)]
theorem mcs_top {vw vc : Value} {R : List Int} {p : Int} (h : R.length = 16) : (mcs k vw vc R p)[16]? = some vw ∧ (mcs k vw vc R p)[17]? = some vc ∧ (mcs k vw vc R p)[18]? = some (.int k p) := by
  unfold mcs
  refine ⟨?_, ?_, ?_⟩ <;> (rw [List.getElem?_append_right (by simp [h])]; simp [h])
theorem IsM.reg (x : IsM k T B w P m) (i : Nat) (hi : i < 16) : w.cell? ⟨P.g, i, none⟩ = some (.int .u64 (m.R.getD i 0)) := by
  rw [x.blk.cell, List.getElem?_toArray]; exact mcs_reg x.good.r i hi
theorem IsM.cw (x : IsM k T B w P m) : w.cell? ⟨P.g, 16, none⟩ = some (vws P m) := by
  rw [x.blk.cell, List.getElem?_toArray]; exact (mcs_top x.good.r).1
theorem IsM.cc (x : IsM k T B w P m) : w.cell? ⟨P.g, 17, none⟩ = some (vcs P m) := by
  rw [x.blk.cell, List.getElem?_toArray]; exact (mcs_top x.good.r).2.1
theorem IsM.cp (x : IsM k T B w P m) : w.cell? ⟨P.g, 18, none⟩ = some (.int k m.p) := by
  rw [x.blk.cell, List.getElem?_toArray]; exact (mcs_top x.good.r).2.2
theorem IsM.word (x : IsM k T B w P m) (i : Nat) (hi : i < m.W.length) : w.cell? ⟨P.gw, i, none⟩ = some (.int .u32 (m.W.getD i 0)) := by
  rw [x.wrd.cell, List.getElem?_toArray, List.getElem?_map]; simp [List.getD, List.getElem?_eq_getElem hi]
theorem IsM.fg (x : IsM k T B w P m) (i : Nat) : w.frozen? ⟨P.g, i, none⟩ = false := x.blk.frozen i
theorem IsM.fw (x : IsM k T B w P m) (i : Nat) : w.frozen? ⟨P.gw, i, none⟩ = false := x.wrd.frozen i
theorem IsM.rdi (x : IsM k T B w P m) : RdI w w.heap.size P.A m.C := RdI.of_rd (Rd.of_row x.code)
theorem IsM.zg (x : IsM k T B w P m) : P.g < w.heap.size := x.blk.lt
theorem IsM.zw (x : IsM k T B w P m) : P.gw < w.heap.size := x.wrd.lt

theorem getD_set {l : List Int} (i j : Nat) (v : Int) : (l.set i v).getD j 0 = if i = j ∧ j < l.length then v else l.getD j 0 := by
  simp only [List.getD_eq_getElem?_getD, List.getElem?_set]
  by_cases h : i = j
  · subst h; by_cases h2 : i < l.length <;> simp [h2]
  · simp [h]
theorem mem_getD {l : List Int} {i : Nat} (h : i < l.length) : l.getD i 0 ∈ l := by
  rw [List.getD_eq_getElem?_getD, List.getElem?_eq_getElem h]; simp
theorem IsM.ru (x : IsM k T B w P m) (i : Nat) (h : i < 16) : U64 (m.R.getD i 0) := x.good.ru _ (mem_getD (by rw [x.good.r]; exact h))
theorem IsM.wu (x : IsM k T B w P m) (i : Nat) (h : i < m.W.length) : 0 ≤ m.W.getD i 0 ∧ m.W.getD i 0 < 4294967296 := x.good.wu _ (mem_getD h)

theorem IsM.setReg (x : IsM k T B w P m) (i : Nat) (hi : i < 16) (v : Int) (hv : U64 v) : IsM k T B (w.setCell ⟨P.g, i, none⟩ (.int .u64 v)) P { m with R := m.R.set i v } := by
  refine ⟨⟨by simpa using x.good.r, fun y hy => ?_, x.good.w0, x.good.w1, x.good.wu, x.good.c, x.good.cl, x.good.p0, x.good.p1⟩, ?_, x.wrd.far (Ne.symm x.ne) _, x.ne, x.lg, x.lw, own_keep x.code fun j hj _ => Below.heap_setCell w ⟨P.g, i, none⟩ _ j (by have := x.lg; simp; omega)⟩
  · rcases List.mem_or_eq_of_mem_set hy with h | h
    · exact x.good.ru y h
    · rw [h]; exact hv
  · have h := x.blk.put i (.int .u64 v)
    have e : (mcs k (vws P m) (vcs P m) m.R m.p).toArray.setIfInBounds i (.int .u64 v) = (mcs k (vws P m) (vcs P m) (m.R.set i v) m.p).toArray := by
      rw [List.setIfInBounds_toArray]
      congr 1
      unfold mcs
      rw [List.set_append_left _ _ (by simp [x.good.r]; exact hi), List.map_set]
    rw [e] at h; exact h
theorem IsM.setWord (x : IsM k T B w P m) (i : Nat) (v : Int) (hv : 0 ≤ v ∧ v < 4294967296) : IsM k T B (w.setCell ⟨P.gw, i, none⟩ (.int .u32 v)) P { m with W := m.W.set i v } := by
  have e0 : vws P { m with W := m.W.set i v } = vws P m := by simp [vws]
  refine ⟨⟨x.good.r, x.good.ru, by simpa using x.good.w0, by simpa using x.good.w1, fun y hy => ?_, x.good.c, x.good.cl, x.good.p0, x.good.p1⟩, ?_, ?_, x.ne, x.lg, x.lw, own_keep x.code fun j hj _ => Below.heap_setCell w ⟨P.gw, i, none⟩ _ j (by have := x.lw; simp; omega)⟩
  · rcases List.mem_or_eq_of_mem_set hy with h | h
    · exact x.good.wu y h
    · rw [h]; exact hv
  · rw [e0]; exact x.blk.far x.ne _
  · have h := x.wrd.put i (.int .u32 v)
    rw [List.setIfInBounds_toArray] at h
    rw [List.map_set]; exact h
theorem IsM.setP (x : IsM k T B w P m) (v : Int) (h0 : 0 ≤ v) (h1 : v < 4294967296) : IsM k T B (w.setCell ⟨P.g, 18, none⟩ (.int k v)) P { m with p := v } := by
  refine ⟨⟨x.good.r, x.good.ru, x.good.w0, x.good.w1, x.good.wu, x.good.c, x.good.cl, h0, h1⟩, ?_, x.wrd.far (Ne.symm x.ne) _, x.ne, x.lg, x.lw, own_keep x.code fun j hj _ => Below.heap_setCell w ⟨P.g, 18, none⟩ _ j (by have := x.lg; simp; omega)⟩
  have h := x.blk.put 18 (.int k v)
  have e : (mcs k (vws P m) (vcs P m) m.R m.p).toArray.setIfInBounds 18 (.int k v) = (mcs k (vws P m) (vcs P m) m.R v).toArray := by
    rw [List.setIfInBounds_toArray]
    congr 1
    unfold mcs
    rw [List.set_append_right _ _ (by simp [x.good.r])]
    simp [x.good.r]
  rw [e] at h; exact h
/-- other code, from its beginning -/
theorem IsM.setC (x : IsM k T B w P m) (A : Option Addr) (c : Nat) (C : List Hi) (hC : ∀ q ∈ C, q.Ok) (hl : C.length ≤ 1000) (ho : w.ownsRow B 35 5 (.slice A C.length c) C.length (ivs C)) :
    IsM k T B ((w.setCell ⟨P.g, 17, none⟩ (.slice A C.length c)).setCell ⟨P.g, 18, none⟩ (.int k 0)) { P with A := A, cc := c } { m with C := C, p := 0 } := by
  refine ⟨⟨x.good.r, x.good.ru, x.good.w0, x.good.w1, x.good.wu, hC, hl, Int.le_refl 0, (show (0 : Int) < 4294967296 by omega)⟩, ?_, (x.wrd.far (Ne.symm x.ne) _).far (Ne.symm x.ne) _, x.ne, x.lg, x.lw, own_keep (own_keep ho fun j hj _ => Below.heap_setCell w ⟨P.g, 17, none⟩ _ j (by have := x.lg; simp; omega)) fun j hj _ => Below.heap_setCell _ ⟨P.g, 18, none⟩ _ j (by have := x.lg; simp; omega)⟩
  have h := (x.blk.put 17 (.slice A C.length c)).put 18 (.int k 0)
  have e : ((mcs k (vws P m) (vcs P m) m.R m.p).toArray.setIfInBounds 17 (.slice A C.length c)).setIfInBounds 18 (.int k 0) = (mcs k (vws P m) (.slice A C.length c) m.R 0).toArray := by
    rw [List.setIfInBounds_toArray, List.setIfInBounds_toArray]
    congr 1
    unfold mcs
    rw [List.set_append_right _ _ (by simp [x.good.r]), List.set_append_right _ _ (by simp [x.good.r])]
    simp [x.good.r]
  rw [e] at h; exact h
end

/-! ### a step -/
def Mc.q (m : Mc) : Hi := m.C.getD m.p.toNat zeroI
def Mc.ra (m : Mc) : Int := m.R.getD m.q.a.toNat 0
def Mc.rb (m : Mc) : Int := m.R.getD m.q.b.toNat 0
/-- the word that it asks -/
def Mc.wa (m : Mc) : Int := IntKind.u64.wrap (m.ra + m.q.n)
/-- how it comes out -/
def stR (m : Mc) : Int :=
  if (m.C.length : Int) ≤ m.p then 2 else if m.q.o = 19 then 1 else if (m.q.o = 14 ∨ m.q.o = 15) ∧ (m.W.length : Int) ≤ m.wa then 4 else 0
/-- what becomes of it -/
def stM (m : Mc) : Mc :=
  if stR m ≠ 0 then m else if m.q.o = 0 then { m with p := m.p + 1 } else if m.q.o = 1 then { m with R := m.R.set m.q.d.toNat m.q.n, p := m.p + 1 }
  else if m.q.o = 14 then { m with R := m.R.set m.q.d.toNat (m.W.getD m.wa.toNat 0), p := m.p + 1 } else if m.q.o = 15 then { m with W := m.W.set m.wa.toNat (m.rb % 4294967296), p := m.p + 1 }
  else if m.q.o = 16 then { m with p := if m.ra = 0 then m.q.n else m.p + 1 } else if m.q.o = 17 then { m with p := if m.ra = 0 then m.p + 1 else m.q.n } else if m.q.o = 18 then { m with p := m.q.n }
  else { m with R := m.R.set m.q.d.toNat (alV m.q.o m.ra m.rb), p := m.p + 1 }
end Go.Proofs.Ytaghblcboimbpaa

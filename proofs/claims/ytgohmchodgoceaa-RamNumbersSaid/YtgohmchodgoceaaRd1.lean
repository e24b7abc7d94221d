/-
  What innkeeperlaw7's do is told, and what it leaves.
-/
import Derived.Test.YtgohmchodgoceaaRa
import Derived.Test.YtgohmchodgoceaaRu
import Derived.Deep.RegionHeld
namespace Go.Proofs.Ytgohmchodgoceaa
open Go.RowKit
set_option linter.unusedSimpArgs false
set_option linter.unusedVariables false

/-- block g alone has turned -/
structure Over (g : Nat) (w w' : World) : Prop where
  os : w'.os = w.os
  tape : w'.tape = w.tape
  output : w'.output = w.output
  size : w'.heap.size = w.heap.size
  block : ∀ k, g ≠ k → w'.heap[k]? = w.heap[k]?
theorem Over.refl (g : Nat) (w : World) : Over g w w := ⟨rfl, rfl, rfl, rfl, fun _ _ => rfl⟩
theorem Over.row (g : Nat) (w : World) (cs : Array Value) : Over g w (w.setRow g cs) := ⟨rfl, rfl, rfl, by simp [World.setRow], fun k hk => setRow_other w g k cs (Ne.symm hk)⟩
theorem wpList_copy_all {P : Program} {w : World} {ops : Array Oper} {rest : List Oper} {o : Oper} {a : Act} {Q : Exit → Act → World → Prop} (hgd : o.guard = none) (d s : Operand) (dT sT : TypeId)
    (ho : o.op = .call { callee := .builtin .copy, args := #[d, s], argTypes := #[dT, sT] }) (elem : TypeId) (hu : P.underlying dT = some (.slice elem)) (hsz : (P.info? elem).map (·.size) = some 1)
    (dp sp : Option Addr) (dLen dCap sLen sCap : Nat) (hd : a.eval d = .slice dp dLen dCap) (hs : a.eval s = .slice sp sLen sCap)
    (g off : Nat) (cur : List Value) (t : TypeId) (hg : w.heap[g]? = some (.cells cur.toArray t (0, 0))) (cs : List Value) (hn : cs.length = Nat.min sLen dLen)
    (hpos : 0 < cs.length → dp = some ⟨g, off, none⟩ ∧ ∃ ad, sp = some ad ∧ ∀ j v, cs[j]? = some v → w.cell? (ad.add j) = some v)
    (hfit : off + cs.length ≤ cur.length) (h1 : ∀ v ∈ cs, v.oneCell' = true)
    (h : ∀ w', Hid (w'.heap[g]? = some (.cells (splice cur off cs).toArray t (0, 0)) ∧ Over g w w') → wpList P ops Q rest (a.put o.dst (goInt cs.length)) w') :
    wpList P ops Q (o :: rest) a w := by
  by_cases h0 : cs.length = 0
  · obtain rfl : cs = [] := List.eq_nil_of_length_eq_zero h0
    refine wpList_copy_nothing hgd d s dT sT ho elem hu hsz dp sp dLen dCap sLen sCap hd hs (by simpa using hn.symm) ?_
    exact h w ⟨show _ = _ by simpa [splice] using hg, Over.refl g w⟩
  · obtain ⟨rfl, ad, rfl, hsrc⟩ := hpos (by omega)
    refine wpList_copy_own hgd d s dT sT ho elem hu hsz g off dLen dCap ad sLen sCap hd hs cur.toArray t hg cs hn hsrc (by simpa using hfit) h1 ?_
    exact h _ ⟨show _ = _ by simpa [splice] using setRow_heap w g _ _ t _ hg, Over.row g w _⟩
theorem step_copy_all {P : Program} {ops : Array Oper} {o : Oper} {a : Act} {w : World} {K : Act → World → Prop} {Q : Exit → Act → World → Prop} {E : Prop} (hgd : o.guard = none) (d s : Operand) (dT sT : TypeId)
    (ho : o.op = .call { callee := .builtin .copy, args := #[d, s], argTypes := #[dT, sT] }) (elem : TypeId) (hu : P.underlying dT = some (.slice elem)) (hsz : (P.info? elem).map (·.size) = some 1)
    (dLen dCap sLen sCap : Nat) (ad : Addr) (g off : Nat) (hd : a.eval d = .slice (some ⟨g, off, none⟩) dLen dCap) (hs : a.eval s = .slice (some ad) sLen sCap)
    (cur : List Value) (t : TypeId) (hg : w.heap[g]? = some (.cells cur.toArray t (0, 0))) (cs : List Value) (hn : cs.length = Nat.min sLen dLen)
    (hsrc : ∀ j v, cs[j]? = some v → w.cell? (ad.add j) = some v)
    (hfit : off + cs.length ≤ cur.length) (h1 : ∀ v ∈ cs, v.oneCell' = true)
    (h : ∀ w', Hid (w'.heap[g]? = some (.cells (splice cur off cs).toArray t (0, 0)) ∧ Over g w w') → K (a.put o.dst (goInt cs.length)) w') :
    if Region.wanted o (yielded ops a.tmps) = true then Oper.wp P o a w K Q else E := by
  have hw : Region.wanted o (yielded ops a.tmps) = true := by simp [Region.wanted, hgd]
  rw [if_pos hw]
  have hrun := run_copy_row (P := P) w dT sT o.type elem g off dLen dCap ad sLen sCap cur.toArray t cs hu hsz hg hn hsrc (by simpa using hfit) h1
  unfold Oper.wp
  simp [execOp, ho, resolve, invoke, builtin, hd, hs, hrun, Result.andThen]
  exact h _ ⟨show _ = _ by simpa [splice] using setRow_heap w g _ _ t _ hg, Over.row g w _⟩
theorem addr_add (b off j : Nat) : (⟨b, off, none⟩ : Addr).add j = ⟨b, off + j, none⟩ := by unfold Addr.add; split <;> simp_all
/-- a slice that no write of the law's reaches -/
def RdO (w : World) (p : Bl) (gb gt : Nat) (A : Option Addr) (xs : List Value) : Prop :=
  0 < xs.length → ∃ b off, A = some ⟨b, off, none⟩ ∧ p.Off b ∧ gb ≠ b ∧ gt ≠ b ∧ b < w.heap.size ∧ ∀ j u, xs[j]? = some u → w.cell? ⟨b, off + j, none⟩ = some u
section
variable {w0 w w' : World} {B : Nat} {p : Bl} {gb gt g : Nat} {X Y : Rm} {F F' : Nat → Int} {G G' : Nat → Bool} {A : Option Addr} {xs : List Value}
theorem RdO.keep (h : RdO w p gb gt A xs) (hz : w.heap.size ≤ w'.heap.size) (hb : ∀ b, b < w.heap.size → p.Off b → gb ≠ b → gt ≠ b → w'.heap[b]? = w.heap[b]?) : RdO w' p gb gt A xs := fun hn => by
  obtain ⟨b, off, e, h1, h2, h3, h4, h5⟩ := h hn
  exact ⟨b, off, e, h1, h2, h3, by omega, fun j u hu => by
    have := h5 j u hu
    simp only [World.cell?, hb b h4 h1 h2 h3] at this ⊢; exact this⟩
theorem RdO.rdM (h : RdO w p gb gt A xs) : RdM w p A xs := fun hn => by
  obtain ⟨b, off, e, h1, h2, h3, h4, h5⟩ := h hn
  exact ⟨b, off, e, h1.1.symm, h1.2.2.1.symm, h1.2.2.2.2.symm, h4, h5⟩
end
def askQ (k : Int) (a : Nat) (v : Int) (A : Option Addr) (len cap : Nat) : Array Value := #[.int .i64 k, .int .u32 a, .int .u32 v, .slice A len cap]
/-- in the midst of do: the memory, the law's bytes and marks, the call at block x, its bytes -/
structure Qst (w0 : World) (B : Nat) (p : Bl) (gb gt x : Nat) (k : Int) (a : Nat) (v : Int) (A : Option Addr) (len cap : Nat) (L : List Int) (w : World) (X : Rm) (F : Nat → Int) (G : Nat → Bool) : Prop where
  d : Dual w0 B p gb gt w X F G
  q : Blk w x 33 (askQ k a v A len cap)
  r : RdO w p gb gt A (ub L)
  o : p.Off x
  xb : gb ≠ x
  xt : gt ≠ x
  lx : B ≤ x
section
variable {w0 w w' : World} {B : Nat} {p : Bl} {gb gt x : Nat} {X Y : Rm} {F F' : Nat → Int} {G G' : Nat → Bool} {k v : Int} {a : Nat} {A : Option Addr} {len cap : Nat} {L : List Int}
theorem qst_new (hB : B ≤ w0.heap.size) (hd : Dual w0 B p gb gt w X F G) (hR : RdO w p gb gt A (ub L)) (k : Int) (a : Nat) (v : Int) (A' : Option Addr) (len cap : Nat) (e : A' = A := by rfl) :
    Qst w0 B p gb gt w.heap.size k a v A' len cap L (w.alloc (.cells (askQ k a v A' len cap) 33)) X F G := by
  subst e
  have hb : Below w.heap.size w (w.alloc (.cells (askQ k a v A' len cap) 33)) := (Below.refl _ _).alloc (Nat.le_refl _) _
  obtain ⟨z1, z2⟩ := hd.z
  exact ⟨hd.keep hB hb, Blk.new _ _ _, hR.keep hb.size fun b hb2 _ _ _ => hb.block b hb2, hd.d.m.off (Nat.le_refl _), by omega, by omega, hd.size hB⟩
theorem Qst.keep (s : Qst w0 B p gb gt x k a v A len cap L w X F G) (hB : B ≤ w0.heap.size) (hb : Below w.heap.size w w') : Qst w0 B p gb gt x k a v A len cap L w' X F G :=
  ⟨s.d.keep hB hb, s.q.below hb s.q.lt, s.r.keep hb.size fun b h _ _ _ => hb.block b h, s.o, s.xb, s.xt, s.lx⟩
theorem Qst.left (s : Qst w0 B p gb gt x k a v A len cap L w X F G) (hB : B ≤ w0.heap.size) (hn : Y.n = X.n) (hm : IsM w' p Y) (ha : Alt p w w') : Qst w0 B p gb gt x k a v A len cap L w' Y F G :=
  ⟨s.d.left hB hn hm ha, (ha.block x s.q.lt s.o.1.symm s.o.2.2.1.symm s.o.2.2.2.2.symm).trans s.q, s.r.keep ha.size fun b h o _ _ => ha.block b h o.1.symm o.2.2.1.symm o.2.2.2.2.symm, s.o, s.xb, s.xt, s.lx⟩
theorem Qst.setB (s : Qst w0 B p gb gt x k a v A len cap L w X F G) (i : Nat) (u : Int) : Qst w0 B p gb gt x k a v A len cap L (w.setCell ⟨gb, i, none⟩ (.int .u8 u)) X (upd F i u) G :=
  ⟨s.d.setB i u, s.q.far s.xb.symm _, s.r.keep (by simp) fun b _ _ h _ => Below.heap_setCell _ _ _ _ h.symm, s.o, s.xb, s.xt, s.lx⟩
theorem Qst.setT (s : Qst w0 B p gb gt x k a v A len cap L w X F G) (i : Nat) (u : Bool) : Qst w0 B p gb gt x k a v A len cap L (w.setCell ⟨gt, i, none⟩ (.bool u)) X F (upd G i u) :=
  ⟨s.d.setT i u, s.q.far s.xt.symm _, s.r.keep (by simp) fun b _ _ _ h => Below.heap_setCell _ _ _ _ h.symm, s.o, s.xb, s.xt, s.lx⟩
theorem Qst.cast (s : Qst w0 B p gb gt x k a v A len cap L w X F G) (h1 : ∀ j, j < X.n * 64 → F' j = F j) (h2 : ∀ j, j < X.n → G' j = G j) : Qst w0 B p gb gt x k a v A len cap L w X F' G' :=
  ⟨s.d.cast h1 h2, s.q, s.r, s.o, s.xb, s.xt, s.lx⟩
/-- a row of cells is laid over the law's bytes -/
theorem Qst.over (s : Qst w0 B p gb gt x k a v A len cap L w X F G) (hB : B ≤ w0.heap.size) (off : Nat) (M : List Int) (hM : off + M.length ≤ X.n * 64) (hw : Over gb w w')
    (hg : w'.heap[gb]? = some (.cells (splice ((List.range (X.n * 64)).map fun j => Value.int .u8 (F j)) off (ub M)).toArray 5 (0, 0))) :
    Qst w0 B p gb gt x k a v A len cap L w' X (fun j => if off ≤ j ∧ j < off + M.length then M.getD (j - off) 0 else F j) G := by
  have z := s.d.d.m.z
  have hwk := hw.block
  have hb : IsB w' gb (X.n * 64) (fun j => if off ≤ j ∧ j < off + M.length then M.getD (j - off) 0 else F j) := by
    rw [splice_row _ _ off _ (.int .u8 0) (by rw [ub_len]; exact hM), ub_len] at hg
    refine IsC.cast (V := fun j => if off ≤ j ∧ j < off + M.length then (ub M).getD (j - off) (.int .u8 0) else .int .u8 (F j)) hg fun j _ => ?_
    by_cases h : off ≤ j ∧ j < off + M.length
    · simp only [if_pos h]
      have h3 : (ub M).getD (j - off) (.int .u8 0) = (.int .u8 (M.getD (j - off) 0)) := by rw [List.getD_eq_getElem?_getD, ub_get (show j - off < M.length by omega)]; rfl
      rw [h3]
    · simp only [if_neg h]
  have hm : IsM w' p X := s.d.d.m.keep (hwk _ s.d.ob.1.symm) (hwk _ s.d.ob.2.1.symm) (hwk _ s.d.ob.2.2.1.symm) (hwk _ s.d.ob.2.2.2.1.symm) (hwk _ s.d.ob.2.2.2.2.symm)
  have hbw : Below B w0 w' := s.d.d.b.trans ⟨hw.os, hw.tape, hw.output, Nat.le_of_eq hw.size.symm, fun i hi => hwk i (by have := s.d.lb; omega)⟩
  exact ⟨⟨⟨hm, hbw, s.d.d.f⟩, hb, s.d.t.keep (hwk _ s.d.ne), s.d.ob, s.d.ot, s.d.ne, s.d.lb, s.d.lt, fun i hi o h1 h2 => (hwk i h1).trans (s.d.k i hi o h1 h2)⟩, (hwk x s.xb).trans s.q, s.r.keep (Nat.le_of_eq hw.size.symm) fun b h _ h1 _ => hwk b h1, s.o, s.xb, s.xt, s.lx⟩
end
theorem pgs_n (X : Rm) (k : Int) (L : List Int) : (X.pgS k L).n = X.n := by unfold Rm.pgS; split; exact wr_n _ _ _; rfl
theorem pgs_b {X : Rm} {k : Nat} {L : List Int} (hk : k < X.n) (hL : L.length = 64) (j : Nat) : (X.pgS k L).b j = if k * 64 ≤ j ∧ j < k * 64 + 64 then L.getD (j - k * 64) 0 else X.b j := by
  unfold Rm.pgS
  rw [if_pos ⟨by simp [Rm.pB]; omega, hL⟩, wr_b, Int.toNat_natCast, hL]
theorem pgs_tu {X : Rm} {k : Nat} {L : List Int} (hk : k < X.n) (hL : L.length = 64) (q : Nat) : (X.pgS k L).tu q = upd X.tu k true q := by
  unfold Rm.pgS
  rw [if_pos ⟨by simp [Rm.pB]; omega, hL⟩, Int.toNat_natCast, Bool.eq_iff_iff, wr_tu, hL]
  by_cases e : q = k
  · subst e; rw [upd_same]; exact ⟨fun _ => rfl, fun _ => .inr ⟨0, by omega, by omega⟩⟩
  · rw [upd_other _ _ _ _ e]
    exact ⟨fun h => by
      rcases h with h | ⟨t, h1, h2⟩
      · exact h
      · omega, .inl⟩
theorem lds_b {X : Rm} {L : List Int} (h : L.length ≤ X.n * 64) (j : Nat) : (X.ldS L).b j = if 0 ≤ j ∧ j < 0 + L.length then L.getD (j - 0) 0 else X.b j := by
  unfold Rm.ldS; rw [if_pos h, wr_b]
theorem lds_n (X : Rm) (L : List Int) : (X.ldS L).n = X.n := by unfold Rm.ldS; split; exact wr_n _ _ _; rfl
theorem lds_tu {X : Rm} {L : List Int} (h : L.length ≤ X.n * 64) (q : Nat) : (X.ldS L).tu q = (X.ws 0 L L.length).tu q := by
  unfold Rm.ldS; rw [if_pos h, Bool.eq_iff_iff, wr_tu, ws_tu]
theorem uns_n (X : Rm) (k : Nat) : (X.unS k).n = X.n := by unfold Rm.unS; split <;> rfl
theorem slice_at (g N k : Nat) (hk : k < N) (hN : N ≤ 4096) (W : World) :
    (Instr.sliceAt 29 (.slice (some ⟨g, 0, none⟩) N N) (some (.int .i64 (k : Int))) none none).run Try.prog W = .ok (.slice (some ⟨g, k, none⟩) (N - k) (N - k)) W := by
  have h3 : ¬ N = k := by omega
  go_simp
  intro h4
  omega
theorem slice_to (g N k m : Nat) (hk : k < m) (hm : m ≤ N) (hN : N ≤ 4096) (W : World) :
    (Instr.sliceAt 29 (.slice (some ⟨g, 0, none⟩) N N) (some (.int .i64 (k : Int))) (some (.int .i64 (m : Int))) none).run Try.prog W = .ok (.slice (some ⟨g, k, none⟩) (m - k) (N - k)) W := by
  have h3 : ¬ N = k := by omega
  go_simp
  intro h4
  omega
/-- what do leaves -/
def Done (w0 : World) (B : Nat) (p : Bl) (gb gt n : Nat) (e : Ending) (w' : World) : Prop :=
  e = .returned (.bool true) ∧ ∃ Y : Rm, Y.n = n ∧ Dual w0 B p gb gt w' Y Y.b Y.tu
end Go.Proofs.Ytgohmchodgoceaa

/-
  WORDS OF MEMORY for what grows by append: a row of the call's own, before and behind. It imports nothing of the program.
-/
import Derived.Below
import Derived.Lib.Hide
import Derived.Deep.Draws
import Derived.Deep.AppendLies
import Derived.OwnWalk
namespace Go.Proofs.Ytblfplhiamcpoaa
open Go.RowKit

/-- v' (n elements, the cells xs) is what has become of the row v: it is owned; but for v's row and new blocks nothing has turned. -/
structure Ext (B : Nat) (e : TypeId) (size : Nat) (w w' : World) (v v' : Value) (n : Nat) (xs : List Value) : Prop where
  own : w'.ownsRow B e size v' n xs
  grew : w.grownBy w' v.ownBlock
  lies : ∀ g, v'.ownBlock = some g → v.ownBlock = some g ∨ w.heap.size ≤ g

section
variable {B : Nat} {e : TypeId} {size : Nat} {w w1 w2 w' : World} {v v1 v2 v' : Value} {n n1 n2 : Nat} {xs xs1 xs2 : List Value}

theorem Ext.refl (h : w.ownsRow B e size v n xs) : Ext B e size w w v v n xs := ⟨h, World.grownBy.refl w _, fun _ hg => .inl hg⟩
theorem Ext.size_le (h : Ext B e size w w' v v' n xs) : w.heap.size ≤ w'.heap.size := h.grew.size
theorem Ext.trans (h : Ext B e size w w1 v v1 n1 xs1) (k : Ext B e size w1 w2 v1 v2 n2 xs2) : Ext B e size w w2 v v2 n2 xs2 := by
  refine ⟨k.own, ⟨k.grew.os.trans h.grew.os, k.grew.tape.trans h.grew.tape, k.grew.output.trans h.grew.output, Nat.le_trans h.grew.size k.grew.size, fun i hi hne => ?_⟩, fun g hg => ?_⟩
  · refine (k.grew.block i (Nat.lt_of_lt_of_le hi h.grew.size) (fun e => ?_)).trans (h.grew.block i hi hne)
    rcases h.lies i e.symm with h1 | h1
    · exact hne h1.symm
    · omega
  · rcases k.lies g hg with h1 | h1
    · rcases h.lies g h1 with h2 | h2
      · exact .inl h2
      · exact .inr h2
    · exact .inr (Nat.le_trans h.grew.size h1)
/-- new blocks first -/
theorem Ext.after (hb : Below w.heap.size w w1) (k : Ext B e size w1 w2 v v2 n2 xs2) : Ext B e size w w2 v v2 n2 xs2 := by
  refine ⟨k.own, ⟨k.grew.os.trans hb.os, k.grew.tape.trans hb.tape, k.grew.output.trans hb.output, Nat.le_trans hb.size k.grew.size, fun i hi hne => ?_⟩, fun g hg => ?_⟩
  · exact (k.grew.block i (Nat.lt_of_lt_of_le hi hb.size) hne).trans (hb.block i hi)
  · rcases k.lies g hg with h1 | h1
    · exact .inl h1
    · exact .inr (Nat.le_trans hb.size h1)
/-- new blocks behind -/
theorem Ext.behind (h : Ext B e size w w1 v v1 n xs) (hb : Below w1.heap.size w1 w2) : Ext B e size w w2 v v1 n xs := by
  refine h.trans ⟨h.own.kept (row := none) ⟨hb.os, hb.tape, hb.output, hb.size, fun k hk _ => hb.block k hk⟩ ?_, ⟨hb.os, hb.tape, hb.output, hb.size, fun k hk _ => hb.block k hk⟩, fun g hg => .inl hg⟩
  cases hv : v1.ownBlock <;> simp
theorem Ext.below (h : Ext B e size w w' v v' n xs) (hB : B ≤ w.heap.size) (ho : w.ownsRow B e size v n1 xs1) : Below B w w' :=
  (Below.refl _ _).grown h.grew hB fun k hk => (ho.lt k hk).1
theorem Ext.cell (h : Ext B e size w w' v v' n xs) {p : Addr} (hp : p.block < w.heap.size) (hne : ∀ g, v.ownBlock = some g → g ≠ p.block) : w'.cell? p = w.cell? p :=
  h.grew.cell_far p hp fun e => hne _ e.symm rfl
theorem Ext.frozen (h : Ext B e size w w' v v' n xs) {p : Addr} (hp : p.block < w.heap.size) (hne : ∀ g, v.ownBlock = some g → g ≠ p.block) : w'.frozen? p = w.frozen? p :=
  h.grew.frozen_far p hp fun e => hne _ e.symm rfl
theorem own_lt (h : w.ownsRow B e size v n xs) : ∀ g, v.ownBlock = some g → g < w.heap.size := fun g hg => (h.lt g hg).2
theorem own_below (h : w.ownsRow B e size v n xs) (hb : Below w.heap.size w w') : w'.ownsRow B e size v n xs :=
  h.kept (row := none) ⟨hb.os, hb.tape, hb.output, hb.size, fun k hk _ => hb.block k hk⟩ (by cases hv : v.ownBlock <;> simp)
/-- what starts as nil makes new blocks alone -/
theorem Ext.nil_below (h : Ext B e size w w' (.slice none 0 0) v' n xs) : Below w.heap.size w w' :=
  (Below.refl _ _).grown h.grew (Nat.le_refl _) fun k hk => by simp [Value.ownBlock] at hk
/-- what starts as nil lies in a new block -/
theorem Ext.nil_own (h : Ext B e size w w' (.slice none 0 0) v' n xs) : w'.ownsRow w.heap.size e size v' n xs := by
  refine ⟨h.own.1, ?_⟩
  rcases h.own.2 with h1 | ⟨g, cap, cur, h1, h2, r⟩
  · exact .inl h1
  · refine .inr ⟨g, cap, cur, h1, ?_, r⟩
    rcases h.lies g (by rw [h1]; rfl) with h3 | h3
    · simp [Value.ownBlock] at h3
    · exact h3
end

theorem own_mono {w : World} {B B' : Nat} {e : TypeId} {size : Nat} {v : Value} {n : Nat} {xs : List Value} (h : w.ownsRow B e size v n xs) (hB : B' ≤ B) : w.ownsRow B' e size v n xs := by
  refine ⟨h.1, ?_⟩
  rcases h.2 with h1 | ⟨g, cap, cur, h1, h2, r⟩
  · exact .inl h1
  · exact .inr ⟨g, cap, cur, h1, Nat.le_trans hB h2, r⟩
theorem own_form {w : World} {B : Nat} {e : TypeId} {size : Nat} {v : Value} {n : Nat} {xs : List Value} (h : w.ownsRow B e size v n xs) : ∃ A c, v = .slice A n c := by
  rcases h.2 with ⟨rfl, rfl⟩ | ⟨g, cap, cur, rfl, _⟩
  · exact ⟨_, _, rfl⟩
  · exact ⟨_, _, rfl⟩

/-- append of what stands in a block of its own, made ahead -/
theorem wpList_app {P : Program} {w : World} {ops : Array Oper} {rest : List Oper} {o : Oper} {a : Act} {Q : Exit → Act → World → Prop} (hgd : o.guard = none) (s x : Operand) (t : TypeId)
    (ho : o.op = .call { callee := .builtin .append, args := #[s, x], argTypes := #[t, t] })
    (base : Nat) (e : TypeId) (z : Value) (size bytes : Nat) (ht : P.underlying t = some (.slice e)) (hinfo : (P.info? e).map (fun i => (i.zero, i.size, i.bytes)) = some (some z, size, bytes))
    (hzs : z.cells.size = size) (hsz : 0 < size)
    (v : Value) (n : Nat) (xs : List Value) (hs : a.eval s = v) (hown : w.ownsRow base e size v n xs)
    (G m c : Nat) (cs : Array Value) (t' : TypeId) (fr : Nat × Nat) (hx : a.eval x = .slice (some ⟨G, 0, none⟩) m c) (hG : w.heap[G]? = some (.cells cs t' fr)) (hl : cs.size = m * size) (h1 : ∀ u ∈ cs.toList, u.oneCell' = true)
    (hm : 0 < m) (h63 : n + m ≤ maxLen) (hbytes : (n + m) * bytes ≤ 140737488355328) (hbase : base ≤ w.heap.size)
    (h : ∀ g cap w', Ext base e size w w' v (.slice (some ⟨g, 0, none⟩) (n + m) cap) (n + m) (xs ++ cs.toList) → wpList P ops Q rest (a.put o.dst (.slice (some ⟨g, 0, none⟩) (n + m) cap)) w') : wpList P ops Q (o :: rest) a w := by
  obtain ⟨i, hi, hz, hsize, hby⟩ := info_parts hinfo
  refine wpList_append_lies w hgd s x t ho base e i z size bytes ht hi hz hsize hby hzs hsz v n xs hs hown ⟨G, 0, none⟩ m c cs.toList hx (by simpa using hl) (World.news_of_block hG) h1 hm h63 hbytes hbase _ rfl ?_
  intro g cap w' h2 h3 h4 h5
  refine h g cap w' ⟨h2, h3, fun g' hg' => ?_⟩
  have : g = g' := by simpa [Value.ownBlock] using hg'
  subst this
  rcases h4 with h4 | h4
  · exact .inl h4
  · exact .inr (by omega)
end Go.Proofs.Ytblfplhiamcpoaa

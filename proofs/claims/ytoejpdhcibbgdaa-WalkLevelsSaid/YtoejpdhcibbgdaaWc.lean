/-
  innkeeperlaw8's both: A CONTRACT; a memory beside the document's.
-/
import Derived.Test.YtoejpdhcibbgdaaWp
import Derived.Test.YtoejpdhcibbgdaaLw
import Derived.Test.YtoejpdhcibbgdaaLc
namespace Go.Proofs.Ytoejpdhcibbgdaa
open Go.RowKit
set_option linter.unusedSimpArgs false
set_option linter.unusedVariables false

/-- a memory (X) and the document's (Z), made since w0 -/
structure Pr (w0 : World) (B : Nat) (p : Bl) (q b t : Nat) (w : World) (X Z : Rm) : Prop where
  d : Me w0 B p w X
  u : IsW w q b t Z
  oq : p.Off q
  ob : p.Off b
  ot : p.Off t
  lq : B ≤ q
  lb : B ≤ b
  lt : B ≤ t
  k : ∀ i, i < w0.heap.size → p.Off i → b ≠ i → t ≠ i → w.heap[i]? = w0.heap[i]?
section
variable {w0 w w' : World} {B : Nat} {p : Bl} {q b t : Nat} {X Y Z V : Rm}
theorem Pr.size (x : Pr w0 B p q b t w X Z) (hB : B ≤ w0.heap.size) : B ≤ w.heap.size := Nat.le_trans hB x.d.b.size
theorem Pr.old (x : Pr w0 B p q b t w X Z) {i : Nat} (h : i < w0.heap.size) : i < w.heap.size := Nat.lt_of_lt_of_le h x.d.b.size
theorem Pr.keep (x : Pr w0 B p q b t w X Z) (hB : B ≤ w0.heap.size) (hb : Below w.heap.size w w') : Pr w0 B p q b t w' X Z :=
  ⟨x.d.keep (x.size hB) hb, x.u.below hb, x.oq, x.ob, x.ot, x.lq, x.lb, x.lt, fun i hi o h1 h2 => (hb.block i (x.old hi)).trans (x.k i hi o h1 h2)⟩
theorem Pr.left (x : Pr w0 B p q b t w X Z) (hB : B ≤ w0.heap.size) (hm : IsM w' p Y) (ha : Alt p w w') : Pr w0 B p q b t w' Y Z :=
  ⟨x.d.left (x.size hB) hm ha, x.u.keep (ha.block _ x.u.z.1 x.oq.1.symm x.oq.2.2.1.symm x.oq.2.2.2.2.symm) (ha.block _ x.u.z.2.1 x.ob.1.symm x.ob.2.2.1.symm x.ob.2.2.2.2.symm) (ha.block _ x.u.z.2.2 x.ot.1.symm x.ot.2.2.1.symm x.ot.2.2.2.2.symm), x.oq, x.ob, x.ot, x.lq, x.lb, x.lt,
    fun i hi o h1 h2 => (ha.block i (x.old hi) o.1.symm o.2.2.1.symm o.2.2.2.2.symm).trans (x.k i hi o h1 h2)⟩
theorem Pr.right (x : Pr w0 B p q b t w X Z) (hB : B ≤ w0.heap.size) (hu : IsW w' q b t V) (ht : Turn b t w w') : Pr w0 B p q b t w' X V := by
  obtain ⟨z1, z2, z3, z4, z5⟩ := x.d.m.z
  exact ⟨⟨x.d.m.keep (ht.block _ z1 x.ob.1 x.ot.1) (ht.block _ z2 x.ob.2.1 x.ot.2.1) (ht.block _ z3 x.ob.2.2.1 x.ot.2.2.1) (ht.block _ z4 x.ob.2.2.2.1 x.ot.2.2.2.1) (ht.block _ z5 x.ob.2.2.2.2 x.ot.2.2.2.2), ht.below x.lb x.lt x.d.b (x.size hB), x.d.f⟩, hu, x.oq, x.ob, x.ot, x.lq, x.lb, x.lt,
    fun i hi o h1 h2 => (ht.block i (x.old hi) h1.symm h2.symm).trans (x.k i hi o h1 h2)⟩
/-- told since now -/
theorem Pr.now (x : Pr w0 B p q b t w X Z) : Pr w B p q b t w X Z :=
  ⟨⟨x.d.m, Below.refl _ _, x.d.f⟩, x.u, x.oq, x.ob, x.ot, x.lq, x.lb, x.lt, fun _ _ _ _ _ => rfl⟩
theorem Pr.trans (x : Pr w0 B p q b t w X Z) (y : Pr w B p q b t w' Y V) : Pr w0 B p q b t w' Y V :=
  ⟨⟨y.d.m, x.d.b.trans y.d.b, y.d.f⟩, y.u, y.oq, y.ob, y.ot, y.lq, y.lb, y.lt, fun i hi o h1 h2 => (y.k i (x.old hi) o h1 h2).trans (x.k i hi o h1 h2)⟩
end
/-- a copy into a row: that row alone is turned -/
theorem wpList_copy_turn {P : Program} {w : World} {ops : Array Oper} {rest : List Oper} {o : Oper} {a : Act} {Q : Exit → Act → World → Prop} (hgd : o.guard = none) (d s : Operand) (dT sT : TypeId)
    (ho : o.op = .call { callee := .builtin .copy, args := #[d, s], argTypes := #[dT, sT] }) (elem : TypeId) (hu : P.underlying dT = some (.slice elem)) (hsz : (P.info? elem).map (·.size) = some 1)
    (dp sp : Option Addr) (dLen dCap sLen sCap : Nat) (hd : a.eval d = .slice dp dLen dCap) (hs : a.eval s = .slice sp sLen sCap)
    (g off : Nat) (cur : List Value) (t : TypeId) (hg : w.heap[g]? = some (.cells cur.toArray t (0, 0))) (cs : List Value) (hn : cs.length = Nat.min sLen dLen)
    (hpos : 0 < cs.length → dp = some ⟨g, off, none⟩ ∧ ∃ ad, sp = some ad ∧ ∀ j v, cs[j]? = some v → w.cell? (ad.add j) = some v)
    (hfit : off + cs.length ≤ cur.length) (h1 : ∀ v ∈ cs, v.oneCell' = true)
    (h : ∀ w', Hid (w'.heap[g]? = some (.cells (splice cur off cs).toArray t (0, 0))) → Turn g g w w' → wpList P ops Q rest (a.put o.dst (goInt cs.length)) w') :
    wpList P ops Q (o :: rest) a w := by
  by_cases h0 : cs.length = 0
  · obtain rfl : cs = [] := List.eq_nil_of_length_eq_zero h0
    refine wpList_copy_nothing hgd d s dT sT ho elem hu hsz dp sp dLen dCap sLen sCap hd hs (by simpa using hn.symm) ?_
    exact h w (show _ = _ by simpa [splice] using hg) (Turn.refl _ _ _)
  · obtain ⟨rfl, ad, rfl, hsrc⟩ := hpos (by omega)
    refine wpList_copy_own hgd d s dT sT ho elem hu hsz g off dLen dCap ad sLen sCap hd hs cur.toArray t hg cs hn hsrc (by simpa using hfit) h1 ?_
    exact h _ (show _ = _ by simpa [splice] using setRow_heap w g _ _ t _ hg) ⟨rfl, rfl, rfl, by simp, fun i _ hi _ => setRow_other w g i _ hi⟩
/-- the memory that both makes of n pages and the bytes of L -/
def btX (n : Nat) (L : List Int) : Rm := ((rm0 n).ldS L).calm
theorem bt_n (n : Nat) (L : List Int) : (btX n L).n = n := by
  unfold btX Rm.calm Rm.ldS
  split
  · exact wr_n _ _ _
  · rfl
theorem bt_b {n : Nat} {L : List Int} (h : L.length ≤ n * 64) (j : Nat) : (btX n L).b j = if j < L.length then L.getD j 0 else 0 := by
  unfold btX Rm.calm Rm.ldS
  rw [if_pos (show L.length ≤ (rm0 n).n * 64 from h)]
  show ((rm0 n).wr 0 L).b j = _
  rw [wr_b, Nat.zero_add, Nat.sub_zero]
  by_cases h : j < L.length
  · rw [if_pos ⟨Nat.zero_le _, h⟩, if_pos h]
  · rw [if_neg (by omega), if_neg h]; rfl
theorem bt_tu (n : Nat) (L : List Int) (j : Nat) : (btX n L).tu j = false := rfl
/-- what both answers -/
def Bth (n : Nat) (L : List Int) (w : World) (e : Ending) (w' : World) : Prop :=
  ∃ (p : Bl) (q b t : Nat), e = .returned (.tuple #[.pointer (some ⟨p.m, 0, none⟩), .pointer (some ⟨q, 0, none⟩)]) ∧ Pr w w.heap.size p q b t w' (btX n L) (btX n L)
set_option maxRecDepth 100000 in
set_option maxHeartbeats 1000000 in
theorem both_any (A : Option Addr) (len c n : Nat) (L : List Int) (hlen : len = L.length) (hL : ∀ x ∈ L, 0 ≤ x ∧ x < 256) (h1 : 1 ≤ n) (hn : n ≤ 64) (hfit : len ≤ n * 64) (w : World) (hR : Rd w w.heap.size A (ub L)) :
    Calls Try.prog 11 #[.slice A len c, .int .i64 n] w (Bth n L w) := by
  obtain ⟨e1, e2⟩ := new_0 0 n (by omega) h1 hn
  have HE := Lib.hid (And.intro e1 e2)
  have HN := Lib.hid (And.intro h1 hn)
  have HL := Lib.hid (And.intro hlen (And.intro hL hfit))
  have HR := Lib.hid hR
  have HBB := Lib.hid (fun (h : L.length ≤ n * 64) => bt_b h)
  have HBN := Lib.hid (bt_n n L)
  have HBT := Lib.hid (bt_tu n L)
  have hsz1 : (Try.prog.info? 5).map (·.size) = some 1 := by kernel_rfl
  unfold Bth
  clear e1 e2 h1 hn hlen hL hfit hR
  go_enter Try.func11, Try.ntmps11
  go_wp2_with fail
  refine (newP_any _).mono ?_
  rintro e w1 ⟨rfl, hp1, hb1⟩
  have HP1 := Lib.hid hp1
  have HB1 := Lib.hid hb1
  clear hp1 hb1
  go_wp2_with fail
  refine (newT_any (g := w.heap.size) (0 : Int) (n : Int) _ HP1.out).mono ?_
  rintro e w2 ⟨hp2, ht2, ⟨hne, _⟩ | ⟨_, h, r, rfl, hh, hr, hT⟩⟩
  · exact absurd HE.out.1 hne
  · have e2 : newS po0 0 (n : Int) = po0.promS 0 n := HE.out.2
    rw [e2] at hp2
    have hs := HB1.out.size
    have HP2 := Lib.hid hp2
    have HB2 := Lib.hid (ht2.below (Nat.le_refl _) (Nat.le_refl _) HB1.out HB1.out.size)
    have HT := Lib.hid hT
    have hs2 := ht2.size
    clear hp2 ht2 hT e2
    go_wp2_with (go_at_call 22; refine (newM_any w.heap.size h r 0 n _ (by omega) HN.out.2 HP2.out HT.out).mono ?_; rintro e w3 ⟨m, u, rfl, hm, hu, hM, hb3⟩
                 have HM := Lib.hid (show Me w w.heap.size ⟨w.heap.size, h, r, m, u⟩ w3 (rm0 n) from ⟨hM, HB2.out.trans (hb3.mono (by omega)), ⟨Nat.le_refl _, show _ ≤ h by omega, show _ ≤ r by omega, show _ ≤ m by omega, show _ ≤ u by omega⟩⟩)
                 clear hM hb3 HP2 HT HB2 HP1 HB1)
    generalize hp : (⟨w.heap.size, h, r, m, u⟩ : Bl) = p at *
    have hpm : p.m = m := by rw [← hp]
    clear hp
    subst hpm
    have hLo := loadM_any A len c L HL.out.1 HL.out.2.1 w3 HM.out.m (RdM.of_rd (HR.out.below HM.out.b) HM.out.f.1 HM.out.f.2.2.1 HM.out.f.2.2.2.2 HM.out.b.size)
    rw [show (rm0 n).ldE len = 0 from if_pos HL.out.2.2] at hLo
    refine hLo.mono ?_
    rintro e w4 ⟨rfl, hm4, ha4⟩
    have HM4 := Lib.hid (HM.out.left HM.out.b.size hm4 ha4)
    clear hLo hm4 ha4 HM
    go_wp2_with (go_at_call 24; refine (calm_any _ HM4.out.m).mono ?_; rintro e w5 ⟨rfl, hm5, ha5⟩; have HM5 := Lib.hid (show Me w w.heap.size p w5 (btX n L) from HM4.out.left HM4.out.b.size hm5 ha5); clear hm5 ha5 HM4)
    refine (newW_any n HN.out.1 HN.out.2 w5).mono ?_
    rintro e w6 ⟨q, b, t, rfl, hq, hb, ht, hW, hb6⟩
    have hs5 := HM5.out.b.size
    have HM6 := Lib.hid (HM5.out.keep hs5 hb6)
    have HOF := Lib.hid (And.intro (HM5.out.m.off hq) (And.intro (HM5.out.m.off hb) (HM5.out.m.off ht)))
    have HW := Lib.hid hW
    have c0 := hW.c0
    rw [show (rm0 n).n = n from rfl] at c0
    have hsz6 := hb6.size
    clear hb6 hW HM5
    have hll : (ub L).length = Nat.min len (n * 64) := by rw [ub_len, ← HL.out.1]; exact (Nat.min_eq_left HL.out.2.2).symm
    have hps : 0 < (ub L).length → ∃ ad, A = some ad ∧ ∀ j v, (ub L)[j]? = some v → w6.cell? (ad.add j) = some v := fun hp => by
      obtain ⟨g, off, rfl, hg, hc⟩ := (HR.out.below HM6.out.b) hp
      refine ⟨_, rfl, fun j v hv => ?_⟩
      have hadd : (⟨g, off, none⟩ : Addr).add j = ⟨g, off + j, none⟩ := by unfold Addr.add; split <;> simp_all
      rw [hadd]
      exact hc j v hv
    have hone : ∀ v ∈ ub L, v.oneCell' = true := fun v hv => by
      simp only [ub, List.mem_map] at hv
      obtain ⟨x, _, rfl⟩ := hv; rfl
    have HLL := Lib.hid hll
    have HPS := Lib.hid hps
    clear hll hps
    have hib : w6.heap[b]? = some (.cells ((List.range (n * 64)).map fun _ => Value.int .u8 0).toArray 5 (0, 0)) := HW.out.ib
    generalize hM : n * 64 = M at *
    go_wp2_with (refine wpList_copy_turn rfl (.tmp 52) (.tmp 53) 29 29 rfl 5 Try.underlying29 hsz1 (some ⟨b, 0, none⟩) A M M len c rfl rfl b 0 ((List.range M).map fun _ => Value.int .u8 0) 5 hib (ub L) HLL.out (fun h => ⟨rfl, HPS.out h⟩) (by rw [HLL.out, List.length_map, List.length_range, Nat.zero_add]; exact Nat.min_le_right _ _) hone ?_; intro w7 HG7 ht7; have HT7 := Lib.hid ht7; clear ht7)
    go_ret2
    have hg := HG7.out
    rw [splice_row _ M 0 _ (.int .u8 0) (by rw [HLL.out, Nat.zero_add]; exact Nat.min_le_right _ _)] at hg
    have hlM : L.length ≤ n * 64 := by rw [hM, ← HL.out.1]; exact HL.out.2.2
    have hIB : IsB w7 b M (btX n L).b := IsC.cast (V := fun j => if 0 ≤ j ∧ j < 0 + (ub L).length then (ub L).getD (j - 0) (.int .u8 0) else .int .u8 0) hg fun j hj => by
      rw [HBB.out (by rw [← hM]; exact hlM), ub_len, Nat.sub_zero, Nat.zero_add]
      by_cases h : j < L.length
      · rw [if_pos h, if_pos ⟨Nat.zero_le _, h⟩, List.getD_eq_getElem?_getD (l := ub L), ub_get h]; rfl
      · rw [if_neg h, if_neg (by omega)]
    have z := HW.out.z
    have t7 := HT7.out
    have e1 := t7.block q z.1 HW.out.qb HW.out.qb
    have e3 := t7.block t z.2.2 HW.out.bt.symm HW.out.bt.symm
    have c : ∀ i, w7.cell? ⟨q, i, none⟩ = w6.cell? ⟨q, i, none⟩ := fun i => by simp only [World.cell?, e1]
    have hW7 : IsW w7 q b t (btX n L) := by
      refine ⟨?_, ?_, lt_of_same z.1 e1, ?_, ?_, HW.out.qb, HW.out.qt, HW.out.bt⟩
      · rw [c, HBN.out, hM]; exact c0
      · rw [c, HBN.out]; exact HW.out.c1
      · rw [HBN.out, hM]; exact hIB
      · rw [HBN.out]; exact (IsC.keep HW.out.it e3).cast fun j _ => rfl
    have bw : Below w.heap.size w6 w7 := t7.below (by omega) (by omega) (Below.refl _ _) (by omega)
    obtain ⟨z1, z2, z3, z4, z5⟩ := HM6.out.m.z
    obtain ⟨o1, o2, o3⟩ := HOF.out
    exact ⟨p, q, b, t, rfl, ⟨HM6.out.m.keep (t7.block _ z1 o2.1 o2.1) (t7.block _ z2 o2.2.1 o2.2.1) (t7.block _ z3 o2.2.2.1 o2.2.2.1) (t7.block _ z4 o2.2.2.2.1 o2.2.2.2.1) (t7.block _ z5 o2.2.2.2.2 o2.2.2.2.2), HM6.out.b.trans bw, HM6.out.f⟩, hW7, o1, o2, o3, by omega, by omega, by omega, fun i hi _ _ _ => (HM6.out.b.trans bw).block i hi⟩
end Go.Proofs.Ytoejpdhcibbgdaa

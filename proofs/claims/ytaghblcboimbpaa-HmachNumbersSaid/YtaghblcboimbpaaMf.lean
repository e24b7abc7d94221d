/-
  WHAT A STEP LEAVES: for the walks of both machines.
-/
import Derived.Test.YtaghblcboimbpaaMm
namespace Go.Proofs.Ytaghblcboimbpaa
open Go.RowKit
set_option linter.unusedSimpArgs false
set_option linter.unusedVariables false

/-- what a walk is told of a machine that has an instruction at its place -/
structure Cx (k : IntKind) (w : World) (g gw gc off n c nW p : Nat) (o : Int) (d a b : Nat) (m ra rb : Int) : Prop where
  h0 : w.cell? ⟨g, 16, none⟩ = some (.slice (some ⟨gw, 0, none⟩) nW nW)
  h1 : w.cell? ⟨g, 17, none⟩ = some (.slice (some ⟨gc, off, none⟩) n c)
  h2 : w.cell? ⟨g, 18, none⟩ = some (.int k p)
  e0 : w.cell? ⟨gc, off + p * 5, none⟩ = some (.int .i64 o)
  e1 : w.cell? ⟨gc, off + p * 5 + 1, none⟩ = some (.int .i64 d)
  e2 : w.cell? ⟨gc, off + p * 5 + 2, none⟩ = some (.int .i64 a)
  e3 : w.cell? ⟨gc, off + p * 5 + 3, none⟩ = some (.int .i64 b)
  e4 : w.cell? ⟨gc, off + p * 5 + 4, none⟩ = some (.int .u32 m)
  ra : w.cell? ⟨g, a, none⟩ = some (.int .u64 ra)
  rb : w.cell? ⟨g, b, none⟩ = some (.int .u64 rb)
  zg : g < w.heap.size
  zw : gw < w.heap.size
  zc : gc < w.heap.size
theorem Cx.below {k : IntKind} {w w' : World} {g gw gc off n c nW p : Nat} {o : Int} {d a b : Nat} {m ra rb : Int} (x : Cx k w g gw gc off n c nW p o d a b m ra rb) (hb : Below w.heap.size w w') : Cx k w' g gw gc off n c nW p o d a b m ra rb := by
  have key : ∀ q i v, q < w.heap.size → w.cell? ⟨q, i, none⟩ = some v → w'.cell? ⟨q, i, none⟩ = some v := fun q i v hq h => (hb.cell (p := ⟨q, i, none⟩) hq).trans h
  have hz := hb.size
  have zg := x.zg
  have zw := x.zw
  have zc := x.zc
  exact ⟨key _ _ _ zg x.h0, key _ _ _ zg x.h1, key _ _ _ zg x.h2, key _ _ _ zc x.e0, key _ _ _ zc x.e1, key _ _ _ zc x.e2, key _ _ _ zc x.e3, key _ _ _ zc x.e4, key _ _ _ zg x.ra, key _ _ _ zg x.rb, by omega, by omega, by omega⟩


/-- what a step leaves -/
def Stepped (k : IntKind) (T : TypeId) (B : Nat) (P : Mp) (M : Mc) (w : World) (e : Ending) (w' : World) : Prop :=
  e = .returned (.int .i64 (stR M)) ∧ IsM k T B w' P (stM M) ∧ Turn P.g P.gw w w'
/-- an instruction stands at its place -/
structure Qx (M : Mc) (n nW p : Nat) (o : Int) (d a b : Nat) (m ra rb : Int) : Prop where
  qp : M.p = p
  pn : p < n
  qn : M.C.length = n
  qW : M.W.length = nW
  qq : M.q = ⟨o, d, a, b, m⟩
  qa : M.ra = ra
  qb : M.rb = rb
theorem Qx.wa {M : Mc} {n nW p : Nat} {o : Int} {d a b : Nat} {m ra rb : Int} (x : Qx M n nW p o d a b m ra rb) : M.wa = IntKind.u64.wrap (ra + m) := by
  unfold Mc.wa; rw [x.qa, x.qq]
theorem Qx.stR {M : Mc} {n nW p : Nat} {o : Int} {d a b : Nat} {m ra rb : Int} (x : Qx M n nW p o d a b m ra rb) : stR M = if o = 19 then 1 else if (o = 14 ∨ o = 15) ∧ (nW : Int) ≤ IntKind.u64.wrap (ra + m) then 4 else 0 := by
  have := x.pn
  unfold Go.Proofs.Ytaghblcboimbpaa.stR
  rw [x.wa, x.qq, x.qp, x.qn, x.qW, if_neg (by omega)]
theorem Qx.stM {M : Mc} {n nW p : Nat} {o : Int} {d a b : Nat} {m ra rb : Int} (x : Qx M n nW p o d a b m ra rb) : stM M =
    if Go.Proofs.Ytaghblcboimbpaa.stR M ≠ 0 then M else if o = 0 then { M with p := p + 1 } else if o = 1 then { M with R := M.R.set d m, p := p + 1 }
    else if o = 14 then { M with R := M.R.set d (M.W.getD (IntKind.u64.wrap (ra + m)).toNat 0), p := p + 1 } else if o = 15 then { M with W := M.W.set (IntKind.u64.wrap (ra + m)).toNat (rb % 4294967296), p := p + 1 }
    else if o = 16 then { M with p := if ra = 0 then m else p + 1 } else if o = 17 then { M with p := if ra = 0 then p + 1 else m } else if o = 18 then { M with p := m }
    else { M with R := M.R.set d (alV o ra rb), p := p + 1 } := by
  unfold Go.Proofs.Ytaghblcboimbpaa.stM
  rw [x.wa, x.qq, x.qp, x.qa, x.qb]
  rfl


section
variable {k : IntKind} {T : TypeId} {B : Nat} {w U : World} {P : Mp} {M : Mc} {g gw : Nat}
theorem Stepped.drew {e : Ending} (h : Stepped k T B P M w e U) : Stepped k T B P M w e U.drew :=
  ⟨h.1, h.2.1.below ((Below.refl _ _).drew), h.2.2.trans (Turn.of_below ((Below.refl _ _).drew))⟩
theorem fin_stay (hU : IsM k T B U P M) (hT : Turn g gw w U) (hP : P.g = g ∧ P.gw = gw) (r : Int) (hr : stR M = r) (h0 : r ≠ 0) : Stepped k T B P M w (.returned (.int .i64 r)) U := by
  obtain ⟨rfl, rfl⟩ := hP
  have e : stM M = M := by unfold stM; rw [if_pos (by rw [hr]; exact h0)]
  exact ⟨by rw [hr], by rw [e]; exact hU, hT⟩
theorem fin_place (hU : IsM k T B U P M) (hT : Turn g gw w U) (hP : P.g = g ∧ P.gw = gw) (v : Int) (h0 : 0 ≤ v) (h1 : v < 4294967296) (hr : stR M = 0) (hm : stM M = { M with p := v }) : Stepped k T B P M w (.returned (.int .i64 0)) (U.setCell ⟨g, 18, none⟩ (.int k v)) := by
  obtain ⟨rfl, rfl⟩ := hP
  exact ⟨by rw [hr], by rw [hm]; exact hU.setP v h0 h1, hT.setG _ _⟩
theorem fin_reg (hU : IsM k T B U P M) (hT : Turn g gw w U) (hP : P.g = g ∧ P.gw = gw) (d : Nat) (hd : d < 16) (x v : Int) (hx : U64 x) (h0 : 0 ≤ v) (h1 : v < 4294967296) (hr : stR M = 0) (hm : stM M = { M with R := M.R.set d x, p := v }) :
    Stepped k T B P M w (.returned (.int .i64 0)) ((U.setCell ⟨g, d, none⟩ (.int .u64 x)).setCell ⟨g, 18, none⟩ (.int k v)) := by
  obtain ⟨rfl, rfl⟩ := hP
  exact ⟨by rw [hr], by rw [hm]; exact (hU.setReg d hd x hx).setP v h0 h1, (hT.setG _ _).setG _ _⟩
theorem fin_word (hU : IsM k T B U P M) (hT : Turn g gw w U) (hP : P.g = g ∧ P.gw = gw) (i : Nat) (x v : Int) (hx : 0 ≤ x ∧ x < 4294967296) (h0 : 0 ≤ v) (h1 : v < 4294967296) (hr : stR M = 0) (hm : stM M = { M with W := M.W.set i x, p := v }) :
    Stepped k T B P M w (.returned (.int .i64 0)) ((U.setCell ⟨gw, i, none⟩ (.int .u32 x)).setCell ⟨g, 18, none⟩ (.int k v)) := by
  obtain ⟨rfl, rfl⟩ := hP
  exact ⟨by rw [hr], by rw [hm]; exact (hU.setWord i x hx).setP v h0 h1, (hT.setH _ _).setG _ _⟩
end
end Go.Proofs.Ytaghblcboimbpaa

/-
  FOUR MACHINES SIDE BY SIDE: two of the program's (a, c), two of the document's (b, d).
-/
import Derived.Test.YtaghblcboimbpaaMz
import Derived.Test.YtaghblcboimbpaaMk
namespace Go.Proofs.Ytaghblcboimbpaa
open Go.RowKit
set_option linter.unusedSimpArgs false
set_option linter.unusedVariables false

/-- where the four lie: from block s on -/
structure Pl (s : Nat) (Pa Pc Pb Pd : Mp) : Prop where
  a : Pa.g = s + 1 ∧ Pa.gw = s
  c : Pc.g = s + 3 ∧ Pc.gw = s + 2
  b : Pb.g = s + 5 ∧ Pb.gw = s + 4
  d : Pd.g = s + 7 ∧ Pd.gw = s + 6
structure Four (s : Nat) (w0 w : World) (Pa Pc Pb Pd : Mp) (Ma Mc' Mb Md : Mc) : Prop where
  pl : Pl s Pa Pc Pb Pd
  a : IsM .u32 62 (s + 8) w Pa Ma
  c : IsM .u32 62 (s + 8) w Pc Mc'
  b : IsM .i64 44 (s + 8) w Pb Mb
  d : IsM .i64 44 (s + 8) w Pd Md
  below : Below s w0 w
  sz : s + 8 ≤ w.heap.size
section
variable {s : Nat} {w0 w w' : World} {Pa Pc Pb Pd P' : Mp} {Ma Mc' Mb Md M' : Mc}
theorem Four.keep (x : Four s w0 w Pa Pc Pb Pd Ma Mc' Mb Md) (hb : Below w.heap.size w w') : Four s w0 w' Pa Pc Pb Pd Ma Mc' Mb Md :=
  ⟨x.pl, x.a.below hb, x.c.below hb, x.b.below hb, x.d.below hb, x.below.trans (hb.mono (by have := x.sz; omega)), Nat.le_trans x.sz hb.size⟩
theorem Four.toA (x : Four s w0 w Pa Pc Pb Pd Ma Mc' Mb Md) (t : Turn Pa.g Pa.gw w w') (h : IsM .u32 62 (s + 8) w' P' M') (hp : P'.g = Pa.g ∧ P'.gw = Pa.gw) : Four s w0 w' P' Pc Pb Pd M' Mc' Mb Md := by
  obtain ⟨⟨a1, a2⟩, ⟨c1, c2⟩, ⟨b1, b2⟩, ⟨d1, d2⟩⟩ := x.pl
  have hz := x.sz
  rw [a1, a2] at t hp
  exact ⟨⟨hp, ⟨c1, c2⟩, ⟨b1, b2⟩, ⟨d1, d2⟩⟩, h, x.c.turn t (by omega) (by omega) (by omega) (by omega) (by omega) (by omega), x.b.turn t (by omega) (by omega) (by omega) (by omega) (by omega) (by omega), x.d.turn t (by omega) (by omega) (by omega) (by omega) (by omega) (by omega),
    t.below (by omega) (by omega) x.below (by omega), Nat.le_trans hz t.size⟩
theorem Four.toC (x : Four s w0 w Pa Pc Pb Pd Ma Mc' Mb Md) (t : Turn Pc.g Pc.gw w w') (h : IsM .u32 62 (s + 8) w' P' M') (hp : P'.g = Pc.g ∧ P'.gw = Pc.gw) : Four s w0 w' Pa P' Pb Pd Ma M' Mb Md := by
  obtain ⟨⟨a1, a2⟩, ⟨c1, c2⟩, ⟨b1, b2⟩, ⟨d1, d2⟩⟩ := x.pl
  have hz := x.sz
  rw [c1, c2] at t hp
  exact ⟨⟨⟨a1, a2⟩, hp, ⟨b1, b2⟩, ⟨d1, d2⟩⟩, x.a.turn t (by omega) (by omega) (by omega) (by omega) (by omega) (by omega), h, x.b.turn t (by omega) (by omega) (by omega) (by omega) (by omega) (by omega), x.d.turn t (by omega) (by omega) (by omega) (by omega) (by omega) (by omega),
    t.below (by omega) (by omega) x.below (by omega), Nat.le_trans hz t.size⟩
theorem Four.toB (x : Four s w0 w Pa Pc Pb Pd Ma Mc' Mb Md) (t : Turn Pb.g Pb.gw w w') (h : IsM .i64 44 (s + 8) w' P' M') (hp : P'.g = Pb.g ∧ P'.gw = Pb.gw) : Four s w0 w' Pa Pc P' Pd Ma Mc' M' Md := by
  obtain ⟨⟨a1, a2⟩, ⟨c1, c2⟩, ⟨b1, b2⟩, ⟨d1, d2⟩⟩ := x.pl
  have hz := x.sz
  rw [b1, b2] at t hp
  exact ⟨⟨⟨a1, a2⟩, ⟨c1, c2⟩, hp, ⟨d1, d2⟩⟩, x.a.turn t (by omega) (by omega) (by omega) (by omega) (by omega) (by omega), x.c.turn t (by omega) (by omega) (by omega) (by omega) (by omega) (by omega), h, x.d.turn t (by omega) (by omega) (by omega) (by omega) (by omega) (by omega),
    t.below (by omega) (by omega) x.below (by omega), Nat.le_trans hz t.size⟩
theorem Four.toD (x : Four s w0 w Pa Pc Pb Pd Ma Mc' Mb Md) (t : Turn Pd.g Pd.gw w w') (h : IsM .i64 44 (s + 8) w' P' M') (hp : P'.g = Pd.g ∧ P'.gw = Pd.gw) : Four s w0 w' Pa Pc Pb P' Ma Mc' Mb M' := by
  obtain ⟨⟨a1, a2⟩, ⟨c1, c2⟩, ⟨b1, b2⟩, ⟨d1, d2⟩⟩ := x.pl
  have hz := x.sz
  rw [d1, d2] at t hp
  exact ⟨⟨⟨a1, a2⟩, ⟨c1, c2⟩, ⟨b1, b2⟩, hp⟩, x.a.turn t (by omega) (by omega) (by omega) (by omega) (by omega) (by omega), x.c.turn t (by omega) (by omega) (by omega) (by omega) (by omega) (by omega), x.b.turn t (by omega) (by omega) (by omega) (by omega) (by omega) (by omega), h,
    t.below (by omega) (by omega) x.below (by omega), Nat.le_trans hz t.size⟩
/-- a register of the document's two, by stores -/
theorem Four.regs (x : Four s w0 w Pa Pc Pb Pd Ma Mc' Mb Md) (i : Nat) (hi : i < 16) (v : Int) (hv : U64 v) :
    Four s w0 (((w.setCell ⟨Pb.g, i, none⟩ (.int .u64 v)).setCell ⟨Pd.g, i, none⟩ (.int .u64 v)).drew) Pa Pc Pb Pd Ma Mc' { Mb with R := Mb.R.set i v } { Md with R := Md.R.set i v } := by
  have h1 := x.toB ((Turn.refl _ _ _).setG i (.int .u64 v)) (x.b.setReg i hi v hv) ⟨rfl, rfl⟩
  have h2 := h1.toD ((Turn.refl _ _ _).setG i (.int .u64 v)) (h1.d.setReg i hi v hv) ⟨rfl, rfl⟩
  exact h2.keep ((Below.refl _ _).drew)
theorem Four.words (x : Four s w0 w Pa Pc Pb Pd Ma Mc' Mb Md) (i : Nat) (v : Int) (hv : 0 ≤ v ∧ v < 4294967296) :
    Four s w0 (((w.setCell ⟨Pb.gw, i, none⟩ (.int .u32 v)).setCell ⟨Pd.gw, i, none⟩ (.int .u32 v)).drew) Pa Pc Pb Pd Ma Mc' { Mb with W := Mb.W.set i v } { Md with W := Md.W.set i v } := by
  have h1 := x.toB ((Turn.refl _ _ _).setH i (.int .u32 v)) (x.b.setWord i v hv) ⟨rfl, rfl⟩
  have h2 := h1.toD ((Turn.refl _ _ _).setH i (.int .u32 v)) (h1.d.setWord i v hv) ⟨rfl, rfl⟩
  exact h2.keep ((Below.refl _ _).drew)
end
end Go.Proofs.Ytaghblcboimbpaa

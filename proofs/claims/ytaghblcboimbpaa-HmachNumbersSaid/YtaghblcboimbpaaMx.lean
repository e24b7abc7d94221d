/-
  TWO MACHINES SIDE BY SIDE: one of the program's (a), one of the document's (b); Load of too few bytes; rows of numbers.
-/
import Derived.Test.YtaghblcboimbpaaMz
import Derived.Test.YtaghblcboimbpaaMk
namespace Go.Proofs.Ytaghblcboimbpaa
open Go.RowKit
set_option linter.unusedSimpArgs false
set_option linter.unusedVariables false

structure Two (s : Nat) (w0 w : World) (Pa Pb : Mp) (Ma Mb : Mc) : Prop where
  pa : Pa.g = s + 1 ∧ Pa.gw = s
  pb : Pb.g = s + 3 ∧ Pb.gw = s + 2
  a : IsM .u32 62 (s + 4) w Pa Ma
  b : IsM .i64 44 (s + 4) w Pb Mb
  below : Below s w0 w
  sz : s + 4 ≤ w.heap.size
section
variable {s : Nat} {w0 w w' : World} {Pa Pb P' : Mp} {Ma Mb M' : Mc}
theorem Two.keep (x : Two s w0 w Pa Pb Ma Mb) (hb : Below w.heap.size w w') : Two s w0 w' Pa Pb Ma Mb :=
  ⟨x.pa, x.pb, x.a.below hb, x.b.below hb, x.below.trans (hb.mono (by have := x.sz; omega)), Nat.le_trans x.sz hb.size⟩
theorem Two.toA (x : Two s w0 w Pa Pb Ma Mb) (t : Turn Pa.g Pa.gw w w') (h : IsM .u32 62 (s + 4) w' P' M') (hp : P'.g = Pa.g ∧ P'.gw = Pa.gw) : Two s w0 w' P' Pb M' Mb := by
  obtain ⟨a1, a2⟩ := x.pa
  obtain ⟨b1, b2⟩ := x.pb
  have hz := x.sz
  rw [a1, a2] at t hp
  exact ⟨hp, ⟨b1, b2⟩, h, x.b.turn t (by omega) (by omega) (by omega) (by omega) (by omega) (by omega), t.below (by omega) (by omega) x.below (by omega), Nat.le_trans hz t.size⟩
theorem Two.toB (x : Two s w0 w Pa Pb Ma Mb) (t : Turn Pb.g Pb.gw w w') (h : IsM .i64 44 (s + 4) w' P' M') (hp : P'.g = Pb.g ∧ P'.gw = Pb.gw) : Two s w0 w' Pa P' Ma M' := by
  obtain ⟨a1, a2⟩ := x.pa
  obtain ⟨b1, b2⟩ := x.pb
  have hz := x.sz
  rw [b1, b2] at t hp
  exact ⟨⟨a1, a2⟩, hp, x.a.turn t (by omega) (by omega) (by omega) (by omega) (by omega) (by omega), h, t.below (by omega) (by omega) x.below (by omega), Nat.le_trans hz t.size⟩
theorem Two.sets (x : Two s w0 w Pa Pb Ma Mb) (u v : Int) (hu : U64 u) (hv : U64 v) :
    Two s w0 ((((w.setCell ⟨Pb.g, 2, none⟩ (.int .u64 u)).setCell ⟨Pb.g, 3, none⟩ (.int .u64 v)).setCell ⟨Pb.gw, 3, none⟩ (.int .u32 77)).drew) Pa Pb Ma { Mb with R := (Mb.R.set 2 u).set 3 v, W := Mb.W.set 3 77 } := by
  have h := x.toB (((Turn.refl _ _ _).setG 2 (.int .u64 u)).setG 3 (.int .u64 v) |>.setH 3 (.int .u32 77)) (((x.b.setReg 2 (by omega) u hu).setReg 3 (by omega) v hv).setWord 3 77 (by omega)) ⟨rfl, rfl⟩
  exact h.keep ((Below.refl _ _).drew)
end

set_option maxRecDepth 100000 in
set_option maxHeartbeats 1000000 in
theorem load_short (T : TypeId) (B : Nat) (P : Mp) (M : Mc) (A : Option Addr) (c : Nat) (l : List UInt8) (hl : l.length ≤ c) (hc : c ≤ maxLen) (h0 : l ≠ []) (h8 : l.length < 8) (w : World) (hr : Rd w w.heap.size A (bv l)) :
    Calls Try.prog 11 #[.pointer (some ⟨P.g, 0, none⟩), .slice A l.length c] w fun e w' => e = .returned (.int .i64 10) ∧ Below w.heap.size w w' := by
  have HA := Lib.hid (all_any A c l hl hc (by omega) w hr)
  have H0 := Lib.hid h0
  clear hr hl hc h0
  go_enter Try.func11, Try.ntmps11
  go_wp2_with fail
  refine HA.out.mono ?_
  rintro e w1 ⟨hb, L, rest, hL, hE, h⟩
  have hen := encs_len L
  have hll : l.length = (encs L).length + rest.length := by rw [hE, List.length_append]
  have hL0 : L = [] := List.eq_nil_of_length_eq_zero (by omega)
  subst hL0
  have hre : l = rest := by simpa [encs] using hE
  rcases h with h | h
  · exact absurd (hre.trans h.1) H0.out
  · obtain ⟨hne, hd, rfl⟩ := h
    have hd10 : dcE (rest.take 8) = 10 := dcE_short (by rw [← hre]; exact h8)
    rw [hd10]
    have HBB := Lib.hid hb
    clear hb hL hE hne hd HA hd10 hll hen hre
    go_wp2_with fail
    go_ret
    exact ⟨rfl, HBB.out⟩
theorem numL_in (o k : Int) (h0 : 0 ≤ o ∧ o ≤ 19) (h1 : 0 ≤ k ∧ k < 9) : ∀ p ∈ ([⟨o, 1, 2, 3, k⟩, ⟨19, 0, 0, 0, 9⟩] : List Hi), p.In := by
  intro p hp
  simp only [List.mem_cons, List.not_mem_nil, or_false] at hp
  rcases hp with rfl | rfl <;> (unfold Hi.In Hi.fit; simp; try omega)
theorem numRd (w : World) (T : TypeId) (o k : Int) : RdI (w.alloc (.cells #[.int .i64 o, .int .i64 1, .int .i64 2, .int .i64 3, .int .u32 k, .int .i64 19, .int .i64 0, .int .i64 0, .int .i64 0, .int .u32 9] T)) (w.alloc (.cells #[.int .i64 o, .int .i64 1, .int .i64 2, .int .i64 3, .int .u32 k, .int .i64 19, .int .i64 0, .int .i64 0, .int .i64 0, .int .u32 9] T)).heap.size (some ⟨w.heap.size, 0, none⟩) [⟨o, 1, 2, 3, k⟩, ⟨19, 0, 0, 0, 9⟩] := by
  refine RdI.of_rd fun _ => ⟨w.heap.size, 0, rfl, by simp, fun j u hu => ?_⟩
  rw [(Blk.new w T _).cell, Nat.zero_add]
  simpa [ivs, Hi.cs] using hu
/-- the nine numbers -/
def nums : Array Value := #[.int .u64 0, .int .u64 1, .int .u64 3, .int .u64 4, .int .u64 63, .int .u64 64, .int .u64 4294967295, .int .u64 4294967296, .int .u64 18446744073709551615]
theorem nums_at (i : Nat) (hi : i < 9) : ∃ v : Int, U64 v ∧ nums[i]? = some (.int .u64 v) := by
  have : i = 0 ∨ i = 1 ∨ i = 2 ∨ i = 3 ∨ i = 4 ∨ i = 5 ∨ i = 6 ∨ i = 7 ∨ i = 8 := by omega
  rcases this with rfl | rfl | rfl | rfl | rfl | rfl | rfl | rfl | rfl <;> exact ⟨_, by unfold U64; omega, rfl⟩
end Go.Proofs.Ytaghblcboimbpaa

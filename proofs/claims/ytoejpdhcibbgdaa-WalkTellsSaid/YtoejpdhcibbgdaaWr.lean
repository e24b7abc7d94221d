/-
  innkeeperref8: a memory as a value, where it lies; Fault, Bits, Has, Word, Put, New, Pages: A CONTRACT EACH.
-/
import Derived.Test.YtoejpdhcibbgdaaWd
import Derived.Test.YtoejpdhcibbgdaaRt
import Derived.Deep.RegionHeld3
namespace Go.Proofs.Ytoejpdhcibbgdaa
open Go.RowKit
set_option linter.unusedSimpArgs false
set_option linter.unusedVariables false

/-- the document's memory at q: its bytes at b, its marks at t -/
structure IsW (w : World) (q b t : Nat) (X : Rm) : Prop where
  c0 : w.cell? ⟨q, 0, none⟩ = some (.slice (some ⟨b, 0, none⟩) (X.n * 64) (X.n * 64))
  c1 : w.cell? ⟨q, 1, none⟩ = some (.slice (some ⟨t, 0, none⟩) X.n X.n)
  zq : q < w.heap.size
  ib : IsB w b (X.n * 64) X.b
  it : IsU w t X.n X.tu
  qb : q ≠ b
  qt : q ≠ t
  bt : b ≠ t
section
variable {w w' : World} {q b t : Nat} {X Y : Rm}
theorem IsW.keep (x : IsW w q b t X) (e1 : w'.heap[q]? = w.heap[q]?) (e2 : w'.heap[b]? = w.heap[b]?) (e3 : w'.heap[t]? = w.heap[t]?) : IsW w' q b t X := by
  have c : ∀ i, w'.cell? ⟨q, i, none⟩ = w.cell? ⟨q, i, none⟩ := fun i => by simp only [World.cell?, e1]
  exact ⟨(c _).trans x.c0, (c _).trans x.c1, lt_of_same x.zq e1, IsC.keep x.ib e2, IsC.keep x.it e3, x.qb, x.qt, x.bt⟩
theorem IsW.z (x : IsW w q b t X) : q < w.heap.size ∧ b < w.heap.size ∧ t < w.heap.size := ⟨x.zq, IsC.lt x.ib, IsC.lt x.it⟩
theorem IsW.below (x : IsW w q b t X) (hb : Below w.heap.size w w') : IsW w' q b t X := x.keep (hb.block _ x.z.1) (hb.block _ x.z.2.1) (hb.block _ x.z.2.2)
theorem IsW.belowB {B : Nat} (x : IsW w q b t X) (hb : Below B w w') (z : q < B ∧ b < B ∧ t < B) : IsW w' q b t X := x.keep (hb.block _ z.1) (hb.block _ z.2.1) (hb.block _ z.2.2)
theorem IsW.drewN (x : IsW w q b t X) (n : Nat) : IsW (w.drewN n) q b t X := x.below (Below_drewN (Below.refl _ _) n)
theorem IsW.cast (x : IsW w q b t X) (hn : Y.n = X.n) (hb : ∀ j, j < X.n * 64 → Y.b j = X.b j) (ht : ∀ j, j < X.n → Y.tu j = X.tu j) : IsW w q b t Y :=
  ⟨by rw [hn]; exact x.c0, by rw [hn]; exact x.c1, x.zq, by rw [hn]; exact IsB.cast x.ib hb, by rw [hn]; exact IsU.cast x.it ht, x.qb, x.qt, x.bt⟩
theorem IsW.setB (x : IsW w q b t X) (k : Nat) (v : Int) : IsW (w.setCell ⟨b, k, none⟩ (.int .u8 v)) q b t { X with b := upd X.b k v } := by
  have c : ∀ i, (w.setCell ⟨b, k, none⟩ (.int .u8 v)).cell? ⟨q, i, none⟩ = w.cell? ⟨q, i, none⟩ := fun i => by simp only [World.cell?, Below.heap_setCell w ⟨b, k, none⟩ (.int .u8 v) q x.qb]
  exact ⟨(c _).trans x.c0, (c _).trans x.c1, by simpa using x.zq, IsB.set x.ib k v, IsC.far x.it (p := ⟨b, k, none⟩) x.bt.symm _, x.qb, x.qt, x.bt⟩
theorem IsW.setT (x : IsW w q b t X) (k : Nat) (v : Bool) : IsW (w.setCell ⟨t, k, none⟩ (.bool v)) q b t { X with tu := upd X.tu k v } := by
  have c : ∀ i, (w.setCell ⟨t, k, none⟩ (.bool v)).cell? ⟨q, i, none⟩ = w.cell? ⟨q, i, none⟩ := fun i => by simp only [World.cell?, Below.heap_setCell w ⟨t, k, none⟩ (.bool v) q x.qt]
  exact ⟨(c _).trans x.c0, (c _).trans x.c1, by simpa using x.zq, IsC.far x.ib (p := ⟨t, k, none⟩) x.bt _, IsU.set x.it k v, x.qb, x.qt, x.bt⟩
end
theorem rfault_any (k : Int) (w : World) :
    Calls Try.prog 8 #[.int .i64 k] w fun e w' => e = .returned (.int .i64 (ftV k)) ∧ w = w' := by
  cases hk : isK k
  · rw [ft_no hk]
    have h : ¬ (1 ≤ k ∧ k ≤ 3) := by simpa [isK] using hk
    clear hk
    by_cases h1 : 1 ≤ k
    · have h3 : 3 < k := by omega
      clear h
      go_enter Try.func8, Try.ntmps8
      go_wp2
      go_ret
      exact ⟨rfl, rfl⟩
    · have h3 : k < 1 := by omega
      clear h h1
      go_enter Try.func8, Try.ntmps8
      go_wp2
      go_ret
      exact ⟨rfl, rfl⟩
  · rw [ft_yes hk]
    have h : 1 ≤ k ∧ k ≤ 3 := by simpa [isK] using hk
    clear hk
    rcases (show k = 1 ∨ k = 2 ∨ k = 3 by omega) with rfl | rfl | rfl
    all_goals
      go_enter Try.func8, Try.ntmps8
      go_wp2
      go_ret
      exact ⟨rfl, rfl⟩
theorem rbits_any (k : Int) (s : Bool) (w : World) :
    Calls Try.prog 10 #[.int .i64 k, .bool s] w fun e w' => e = .returned (.int .u32 ((btN k s : Nat) : Int)) ∧ w = w' := by
  rcases (show k = 1 ∨ k = 2 ∨ k = 3 ∨ (k ≠ 1 ∧ k ≠ 2 ∧ k ≠ 3) by omega) with rfl | rfl | rfl | ⟨h1, h2, h3⟩
  case inr.inr.inr =>
    have e1 : (k == 1) = false := by simpa using h1
    have e2 : (k == 2) = false := by simpa using h2
    have e3 : (k == 3) = false := by simpa using h3
    cases s
    · rw [show btN k false = 17 by unfold btN bt0; rw [if_neg h1, if_neg h2, if_neg h3]; rfl]
      go_enter Try.func10, Try.ntmps10
      go_wp2
      go_ret
      exact ⟨rfl, rfl⟩
    · rw [show btN k true = 1 by unfold btN bt0; rw [if_neg h1, if_neg h2, if_neg h3]; rfl]
      go_enter Try.func10, Try.ntmps10
      go_wp2
      go_ret
      exact ⟨rfl, rfl⟩
  all_goals
    cases s
    all_goals
      go_enter Try.func10, Try.ntmps10
      go_wp2
      go_ret
      exact ⟨rfl, rfl⟩
section
variable {q b t : Nat} {X : Rm}
theorem rhas_any (a : Int) (h0 : 0 ≤ a) (h1 : a < 8589934592) (w : World) (hW : IsW w q b t X) (hn : X.n ≤ 64) :
    Calls Try.prog 42 #[.pointer (some ⟨q, 0, none⟩), .int .u64 a, .int .i64 4] w fun e w' => e = .returned (.bool (decide (a + 4 ≤ ((X.n * 64 : Nat) : Int)))) ∧ w = w' := by
  have c := hW.c0
  have hN2 : ((X.n * 64 : Nat) : Int) ≤ 4096 := by omega
  generalize X.n * 64 = N at *
  clear hW hn
  go_enter Try.func42, Try.ntmps42
  go_wp2
  go_ret
  exact ⟨rfl, rfl⟩
set_option maxRecDepth 100000 in
theorem rword_any (a : Nat) (w : World) (hW : IsW w q b t X) (hX : X.Ok) (h : a + 4 ≤ X.n * 64) :
    Calls Try.prog 43 #[.pointer (some ⟨q, 0, none⟩), .int .u64 a] w (Told (.int .u32 (X.wn a : Nat)) w) := by
  have c := hW.c0
  have k0 := IsC.cell hW.ib a (by omega)
  have k1 := IsC.cell hW.ib (a + 1) (by omega)
  have k2 := IsC.cell hW.ib (a + 2) (by omega)
  have k3 := IsC.cell hW.ib (a + 3) (by omega)
  have b0 := hX.bd a (by omega)
  have b1 := hX.bd (a + 1) (by omega)
  have b2 := hX.bd (a + 2) (by omega)
  have b3 := hX.bd (a + 3) (by omega)
  have e := (wn_eq hX a h).1
  have hn := hX.n1
  rw [← e]
  unfold Rm.wd Told
  have o1 := or_hi (X.b a) (X.b (a + 1)) 8 (by omega) (by omega) (by omega) (by omega)
  have o2 := or_hi (X.b a + X.b (a + 1) * 256) (X.b (a + 2)) 16 (by omega) (by omega) (by omega) (by omega)
  have o3 := or_hi (X.b a + X.b (a + 1) * 256 + X.b (a + 2) * 65536) (X.b (a + 3)) 24 (by omega) (by omega) (by omega) (by omega)
  simp only [Int.reducePow] at o1 o2 o3
  have i1 : (a : Int) + 4 ≤ ((X.n * 64 : Nat) : Int) := by omega
  have i2 : ((X.n * 64 : Nat) : Int) ≤ 4096 := by omega
  generalize X.n * 64 = N at *
  generalize X.b a = x0 at *
  generalize X.b (a + 1) = x1 at *
  generalize X.b (a + 2) = x2 at *
  generalize X.b (a + 3) = x3 at *
  clear hW hX h e hn
  go_enter Try.func43, Try.ntmps43
  go_wp2
  go_quiet (fail)
  go_wp2
  go_ret
  exact ⟨rfl, _, rfl⟩
set_option maxRecDepth 100000 in
theorem rput_any (a : Nat) (x : Int) (w : World) (hW : IsW w q b t X) (hn : X.n ≤ 64) (h : a < X.n * 64) :
    Calls Try.prog 44 #[.pointer (some ⟨q, 0, none⟩), .int .u32 a, .int .u8 x] w fun e w' => e = .returned (.tuple #[]) ∧ IsW w' q b t (X.w1 a x) ∧ Turn b t w w' := by
  have c0 := hW.c0
  have c1 := hW.c1
  have k0 := IsC.cell hW.ib a h
  have k1 := IsC.cell hW.it (a / 64) (by omega)
  have f0 := IsC.frozen hW.ib a
  have f1 := IsC.frozen hW.it (a / 64)
  have qb := hW.qb
  have qt := hW.qt
  have bt := hW.bt
  have q1 : ((a : Int)).tdiv 64 = ((a / 64 : Nat) : Int) := by rw [Int.tdiv_eq_ediv_of_nonneg (by omega)]; omega
  have i1 : (a : Int) < ((X.n * 64 : Nat) : Int) := by omega
  have i2 : ((X.n * 64 : Nat) : Int) ≤ 4096 := by omega
  have i3 : ((a / 64 : Nat) : Int) < (X.n : Int) := by omega
  have i4 : (X.n : Int) ≤ 64 := by omega
  have HE := Lib.hid (And.intro ((hW.setB a x).setT (a / 64) true) (((Turn.refl b t w).setG a (.int .u8 x)).setH (a / 64) (.bool true)))
  clear hW h hn
  have e : X.w1 a x = { X with b := upd X.b a x, tu := upd X.tu (a / 64) true } := rfl
  rw [e]
  generalize ({ X with b := upd X.b a x, tu := upd X.tu (a / 64) true } : Rm) = Y at *
  generalize X.n * 64 = N at *
  generalize X.n = n at *
  generalize a / 64 = g at *
  go_enter Try.func44, Try.ntmps44
  go_wp2
  exact bodyPost_end (v := .tuple #[]) (by simp [results, Try.results44, go_sem]) rfl ⟨rfl, HE.out.1, HE.out.2⟩
end
end Go.Proofs.Ytoejpdhcibbgdaa

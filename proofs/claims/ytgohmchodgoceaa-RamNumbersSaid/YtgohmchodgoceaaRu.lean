/-
  nested's Unmap under a memory: A CONTRACT.
-/
import Derived.Test.YtgohmchodgoceaaRw
namespace Go.Proofs.Ytgohmchodgoceaa
open Go.RowKit
set_option linter.unusedSimpArgs false
set_option linter.unusedVariables false

/-- a page is taken away: it contains zeros -/
def Rm.un (X : Rm) (k : Nat) : Rm := { X with b := fun j => if j / 64 = k then 0 else X.b j, mp := upd X.mp k false }
/-- the same, if it is mapped -/
def Rm.unS (X : Rm) (k : Nat) : Rm := if k < X.n ∧ X.mp k = true then X.un k else X
def Rm.unE (X : Rm) (k : Nat) : Int := if k < X.n ∧ X.mp k = true then 0 else 22
section
variable {w w' : World} {p : Bl} {X : Rm}
theorem IsM.unmap (x : IsM w p X) (k : Nat) :
    Calls Try.prog 32 #[.pointer (some ⟨p.h, 0, none⟩), .int .i64 (k : Int)] w (Left p (X.unS k) (.int .i64 (X.unE k)) w) := by
  obtain ⟨S, T, i⟩ := x.inn
  have hu := unmap_any (k : Int) w i.ip i.it
  have fin : ∀ (w' : World) (Y : Rm) (S' : Po) (T' : Ta), Turn p.g p.r w w' → Inn w' p Y S' T' → Y.n = X.n → Y.tu = X.tu → IsM w' p Y := fun w' Y S' T' hu iy hn ht => by
    have e4 := hu.block _ x.zm x.gm.symm x.rm.symm
    have e5 := hu.block _ x.zu x.gu.symm x.ru.symm
    have c4 : ∀ i, w'.cell? ⟨p.m, i, none⟩ = w.cell? ⟨p.m, i, none⟩ := fun i => by simp only [World.cell?, e4]
    have c5 : ∀ i, w'.cell? ⟨p.u, i, none⟩ = w.cell? ⟨p.u, i, none⟩ := fun i => by simp only [World.cell?, e5]
    exact ⟨⟨S', T', iy⟩, x.gm, x.hm, x.rm, x.gu, x.hu, x.ru, x.mu, lt_of_same x.zm e4, lt_of_same x.zu e5, (c4 _).trans x.c0, (c4 _).trans x.c1, by rw [hn]; exact (c4 _).trans x.c2, fun k hk => by rw [hn] at hk; rw [ht]; exact (c5 _).trans (x.ut k hk), fun i => by
      have := x.uf i
      simp only [World.frozen?, e5] at this ⊢; exact this⟩
  by_cases hm : k < X.n ∧ X.mp k = true
  · have hkT : k < T.n := by rw [i.n]; exact hm.1
    have h0 : 0 ≤ T.fr k := by have := i.mp k hm.1; rw [hm.2] at this; simpa [neB] using this.symm
    obtain ⟨e1, q, e2, l1, l2, l3, e3, e4, hj, hk⟩ := un_ok i.j i.k i.it.good k hkT h0
    unfold Rm.unS Rm.unE
    rw [if_pos hm, if_pos hm]
    refine hu.mono ?_
    rintro e w' ⟨rfl, hp, ht, htu⟩
    rw [e3] at hp
    rw [e4] at ht
    have hfr : ∀ j, j ≠ k → (T.put k (-1)).fr j = T.fr j := fun j hj => upd_other _ _ _ _ hj
    have hfrk : (T.put k (-1)).fr k = -1 := upd_same _ _ _
    refine ⟨by rw [e1], fin w' (X.un k) _ _ htu ⟨hp, ht, hj, hk, i.n, fun j hj2 => ?_, fun a ha => ?_⟩ rfl rfl, Alt.of_turn htu⟩
    · show upd X.mp k false j = neB ((T.put k (-1)).fr j)
      by_cases e : j = k
      · subst e; rw [upd_same, hfrk]; rfl
      · rw [upd_other _ _ _ _ e, hfr j e]; exact i.mp j hj2
    · have ha : a < X.n * 64 := ha
      show (if a / 64 = k then 0 else X.b a) = btV (S.rel1 q) (T.put k (-1)) a
      by_cases e : a / 64 = k
      · rw [if_pos e]; unfold btV; rw [e, hfrk]; rfl
      · rw [if_neg e, i.b a ha]
        unfold btV
        rw [hfr _ e]
        split
        · rename_i hm3
          have h3 : 0 ≤ T.fr (a / 64) := by simpa [neB] using hm3
          have hne : (T.fr (a / 64)).toNat ≠ q := fun e5 => by
            have := i.j.inj (a / 64) k (by rw [i.n]; omega) hkT h3 (by omega)
            exact e this
          show S.byte _ _ = upd S.byte q (fun _ => 0) _ _
          rw [upd_other _ _ _ _ hne]
        · rfl
  · have hB : T.mB (k : Int) = false := by
      by_cases hk : k < X.n
      · rw [mB_nat (by rw [i.n]; exact hk), ← i.mp k hk]
        cases h : X.mp k
        · rfl
        · exact absurd ⟨hk, h⟩ hm
      · have : T.pB (k : Int) = false := by simp [Ta.pB]; rw [i.n]; omega
        unfold Ta.mB; rw [this]; rfl
    obtain ⟨e1, e2, e3⟩ := un_no (S := S) hB
    unfold Rm.unS Rm.unE
    rw [if_neg hm, if_neg hm]
    refine hu.mono ?_
    rintro e w' ⟨rfl, hp, ht, htu⟩
    rw [e2] at hp
    rw [e3] at ht
    exact ⟨by rw [e1], fin w' X _ _ htu ⟨hp, ht, i.j, i.k, i.n, i.mp, i.b⟩ rfl rfl, Alt.of_turn htu⟩
end
end Go.Proofs.Ytgohmchodgoceaa

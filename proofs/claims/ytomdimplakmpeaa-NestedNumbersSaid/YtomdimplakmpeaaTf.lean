/-
  innkeeperlaw6's fresh and known: A CONTRACT EACH.
-/
import Derived.Test.YtomdimplakmpeaaTj
namespace Go.Proofs.Ytomdimplakmpeaa
open Go.RowKit
set_option linter.unusedSimpArgs false
set_option linter.unusedVariables false

theorem prom_0 (o n : Nat) (ho : o < 4) (hn : n ≤ 64) : po0.promV o n = 0 := by
  rcases promV_cases po0 o n with ⟨_, h | h | h⟩ | ⟨_, _, _, ⟨_, h⟩ | ⟨_, ⟨_, h⟩ | ⟨h, _⟩⟩⟩
  · simp [oB] at h; omega
  · omega
  · omega
  · simp [po0, neB] at h
  · have : po0.allP 4 = 0 := by decide
    omega
  · exact h
theorem new_0 (o n : Nat) (ho : o < 4) (h1 : 1 ≤ n) (hn : n ≤ 64) : newE po0 o n = 0 ∧ newS po0 o n = po0.promS o n := by
  have e : newE po0 o n = 0 := by unfold newE; rw [if_neg (by omega)]; exact prom_0 o n ho hn
  exact ⟨e, by unfold newS; rw [if_pos e]⟩
/-- a pool and a table of its own -/
def Fresh (o n : Nat) (w : World) (e : Ending) (w' : World) : Prop :=
  ∃ g h r, e = .returned (.tuple #[.pointer (some ⟨g, 0, none⟩), .pointer (some ⟨h, 0, none⟩)]) ∧ w.heap.size ≤ g ∧ w.heap.size ≤ h ∧ w.heap.size ≤ r ∧ IsP w' g (po0.promS o n) ∧ IsT w' g h r (ta0 o n) ∧ Below w.heap.size w w'
set_option maxRecDepth 100000 in
theorem fresh_any (o n : Nat) (ho : o < 4) (h1 : 1 ≤ n) (hn : n ≤ 64) (w : World) :
    Calls Try.prog 17 #[.int .i64 o, .int .i64 n] w (Fresh o n w) := by
  obtain ⟨e1, e2⟩ := new_0 o n ho h1 hn
  have HE := Lib.hid (And.intro e1 e2)
  unfold Fresh
  clear e1 e2
  go_enter Try.func17, Try.ntmps17
  go_wp2_with fail
  refine (newP_any _).mono ?_
  rintro e w1 ⟨rfl, hp1, hb1⟩
  have hz := hp1.z
  have HP1 := Lib.hid hp1
  have HB1 := Lib.hid hb1
  clear hp1 hb1
  go_wp2_with fail
  refine (newT_any (g := w.heap.size) (o : Int) (n : Int) _ HP1.out).mono ?_
  rintro e w2 ⟨hp2, ht2, ⟨hne, _⟩ | ⟨_, h, r, rfl, hh, hr, hT⟩⟩
  · exact absurd HE.out.1 hne
  · rw [HE.out.2] at hp2
    have hs := HB1.out.size
    have HP2 := Lib.hid hp2
    have HB2 := Lib.hid (ht2.below (Nat.le_refl _) (Nat.le_refl _) HB1.out HB1.out.size)
    have HT := Lib.hid hT
    clear hp2 ht2 hT
    go_wp2
    go_ret2
    exact ⟨w.heap.size, h, r, rfl, by omega, by omega, by omega, HP2.out, HT.out, HB2.out⟩
theorem kn1 : mapE (po0.promS 0 8) (ta0 0 8) 3 = 0 ∧ mapF (po0.promS 0 8) (ta0 0 8) 3 = 16 := by decide +kernel
theorem kn2 : (mapT (po0.promS 0 8) (ta0 0 8) 3).frV 3 = 16 ∧ (mapT (po0.promS 0 8) (ta0 0 8) 3).mB 3 = true := by decide +kernel
theorem mapT_n (S : Po) (T : Ta) (k : Int) : (mapT S T k).n = T.n ∧ (mapT S T k).o = T.o := by unfold mapT; split <;> exact ⟨rfl, rfl⟩
theorem unT_n (T : Ta) (k : Int) : (unT T k).n = T.n ∧ (unT T k).o = T.o := by unfold unT; split <;> exact ⟨rfl, rfl⟩
theorem map_no {S : Po} {T : Ta} {k : Int} (h : T.pB k = false) : mapE S T k = 22 ∧ mapF S T k = 0 ∧ mapS S T k = S ∧ mapT S T k = T := by
  unfold mapE mapF mapS mapT; simp [h]
set_option maxRecDepth 100000 in
theorem known_any (w : World) :
    Calls Try.prog 15 #[] w fun e w' => e = .returned (.bool true) ∧ Below w.heap.size w w' := by
  go_enter Try.func15, Try.ntmps15
  go_wp2_with fail
  refine (fresh_any 0 8 (by omega) (by omega) (by omega) _).mono ?_
  rintro e w1 ⟨g, h, r, rfl, hg, hh, hr, hp1, hT1, hb1⟩
  have HP1 := Lib.hid hp1
  have HT1 := Lib.hid hT1
  have HB1 := Lib.hid hb1
  clear hp1 hT1 hb1
  go_wp2_with fail
  refine (map_any 3 _ HP1.out HT1.out).mono ?_
  rintro e w2 ⟨rfl, hp2, hT2, ht2⟩
  have e1 : mapE (po0.promS ((0 : Nat) : Int) ((8 : Nat) : Int)) (ta0 0 8) 3 = 0 := kn1.1
  have e2 : mapF (po0.promS ((0 : Nat) : Int) ((8 : Nat) : Int)) (ta0 0 8) 3 = 16 := kn1.2
  rw [e1, e2]
  have HB2 := Lib.hid (ht2.below hg hr HB1.out HB1.out.size)
  have HP2 := Lib.hid hp2
  have HT2 := Lib.hid hT2
  have hfr := frame_any 3 _ hT2
  have e3 : (mapT (po0.promS ((0 : Nat) : Int) ((8 : Nat) : Int)) (ta0 0 8) 3).frV 3 = 16 := kn2.1
  have e4 : (mapT (po0.promS ((0 : Nat) : Int) ((8 : Nat) : Int)) (ta0 0 8) 3).mB 3 = true := kn2.2
  rw [e3, e4] at hfr
  have HFR := Lib.hid hfr
  obtain ⟨n1, n2⟩ := mapT_n (po0.promS ((0 : Nat) : Int) ((8 : Nat) : Int)) (ta0 0 8) 3
  have HN := Lib.hid n1
  clear hp2 hT2 ht2 e1 e2 e3 e4 hfr n1 n2
  generalize mapT (po0.promS ((0 : Nat) : Int) ((8 : Nat) : Int)) (ta0 0 8) 3 = T at *
  generalize mapS (po0.promS ((0 : Nat) : Int) ((8 : Nat) : Int)) (ta0 0 8) 3 = S at *
  go_wp2_with (go_at_call 23; refine HFR.out.mono ?_; rintro e w' ⟨rfl, rfl⟩)
  refine (map_any 64 _ HP2.out HT2.out).mono ?_
  rintro e w3 ⟨rfl, hp3, hT3, ht3⟩
  obtain ⟨m1, m2, m3, m4⟩ := map_no (S := S) (T := T) (k := 64) (by have := HN.out; simp [Ta.pB, this, ta0])
  rw [m4] at hT3
  rw [m1, m2]
  have hpg := pages_any _ hT3
  rw [HN.out] at hpg
  have HPG := Lib.hid hpg
  have HB3 := Lib.hid (ht3.below hg hr HB2.out HB2.out.size)
  clear hp3 hT3 ht3 m1 m2 m3 m4 hpg
  go_wp2_with (go_at_call 33; refine HPG.out.mono ?_; rintro e w' ⟨rfl, rfl⟩; rw [show (((ta0 0 8).n : Nat) : Int) = 8 from rfl])
  go_ret
  exact ⟨rfl, HB3.out⟩
end Go.Proofs.Ytomdimplakmpeaa

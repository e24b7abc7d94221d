/-
  nested: Map: A CONTRACT.
-/
import Derived.Test.YtoejpdhcibbgdaaTk
import Derived.Test.YtoejpdhcibbgdaaPv
namespace Go.Proofs.Ytoejpdhcibbgdaa
open Go.RowKit
set_option linter.unusedSimpArgs false
set_option linter.unusedVariables false

/-- how Map answers, what it leaves -/
def mapE (S : Po) (T : Ta) (k : Int) : Int := if T.pB k = false then 22 else if T.mB k = true then 0 else S.takeE T.o
def mapF (S : Po) (T : Ta) (k : Int) : Int := if T.pB k = false then 0 else if T.mB k = true then T.fr k.toNat else S.takeF T.o
def mapS (S : Po) (T : Ta) (k : Int) : Po := if T.pB k = true ∧ T.mB k = false then S.takeS T.o else S
def mapT (S : Po) (T : Ta) (k : Int) : Ta := if T.pB k = true ∧ T.mB k = false ∧ S.takeE T.o = 0 then T.put k.toNat (S.takeF T.o) else T
theorem map_cases (S : Po) (T : Ta) (k : Int) :
    (T.pB k = false ∧ mapE S T k = 22 ∧ mapF S T k = 0 ∧ mapS S T k = S ∧ mapT S T k = T) ∨
    (∃ i : Nat, k = i ∧ i < T.n ∧ T.pB k = true ∧ T.mB k = true ∧ 0 ≤ T.fr i ∧ mapE S T k = 0 ∧ mapF S T k = T.fr i ∧ mapS S T k = S ∧ mapT S T k = T) ∨
    (∃ i : Nat, k = i ∧ i < T.n ∧ T.pB k = true ∧ T.mB k = false ∧ neB (T.fr i) = false ∧ mapE S T k = S.takeE T.o ∧ mapF S T k = S.takeF T.o ∧ mapS S T k = S.takeS T.o ∧ mapT S T k = if S.takeE T.o = 0 then T.put i (S.takeF T.o) else T) := by
  unfold mapE mapF mapS mapT
  cases hp : T.pB k
  · exact .inl (by simp)
  · obtain ⟨i, rfl, hi⟩ := pB_true hp
    cases hm : T.mB (i : Int)
    · refine .inr (.inr ⟨i, rfl, hi, rfl, rfl, by rw [← mB_nat hi]; exact hm, ?_⟩)
      simp
    · obtain ⟨j, e, _, h0⟩ := mB_true hm
      obtain rfl : i = j := by omega
      exact .inr (.inl ⟨i, rfl, hi, rfl, rfl, h0, by simp⟩)
theorem takeF_bd {S : Po} {o : Int} (h : S.takeE o = 0) : 16 ≤ S.takeF o ∧ S.takeF o < 256 := by
  rcases take_cases S o with ⟨_, e, _⟩ | ⟨_, _, e, _⟩ | ⟨_, _, _, e, _⟩ | ⟨_, _, f, hf, _, e, _⟩
  · rw [e] at h; cases h
  · rw [e] at h; cases h
  · rw [e] at h; cases h
  · obtain ⟨l1, l2, _⟩ := lowF_some hf
    rw [e]; exact ⟨l1, l2⟩
theorem takeE_or (S : Po) (o : Int) : S.takeE o = 0 ∨ (S.takeE o = 1 ∧ S.takeF o = 0) ∨ (S.takeE o = 13 ∧ S.takeF o = 0) := by
  rcases take_cases S o with ⟨_, e, e2, _⟩ | ⟨_, _, e, e2, _⟩ | ⟨_, _, _, e, e2, _⟩ | ⟨_, _, f, hf, e, _⟩
  · exact .inr (.inl ⟨e, e2⟩)
  · exact .inr (.inr ⟨e, e2⟩)
  · exact .inr (.inr ⟨e, e2⟩)
  · exact .inl e
/-- what Map leaves -/
def Mpd (S : Po) (T : Ta) (g h r : Nat) (k : Int) (w : World) (e : Ending) (w' : World) : Prop :=
  e = .returned (.tuple #[.int .i64 (mapF S T k), .int .i64 (mapE S T k)]) ∧ IsP w' g (mapS S T k) ∧ IsT w' g h r (mapT S T k) ∧ Turn g r w w'
theorem Turn.trans_wide {g r : Nat} {w w1 w2 : World} (a : Turn g g w w1) (b : Turn g r w1 w2) : Turn g r w w2 := a.wide.trans b
section
variable {g h r : Nat} {S : Po} {T : Ta}
set_option maxRecDepth 100000 in
set_option maxHeartbeats 1000000 in
theorem map_any (k : Int) (w : World) (hP : IsP w g S) (hT : IsT w g h r T) :
    Calls Try.prog 56 #[.pointer (some ⟨h, 0, none⟩), .int .i64 k] w (Mpd S T g h r k w) := by
  have hh := isPage_any k w hT
  have hmm := isMapped_any k w hT
  have HP := Lib.hid hP
  have HT := Lib.hid hT
  unfold Mpd
  rcases map_cases S T k with ⟨hp, e1, e2, e3, e4⟩ | ⟨i, rfl, hi, hp, hm, h0, e1, e2, e3, e4⟩ | ⟨i, rfl, hi, hp, hm, h0, e1, e2, e3, e4⟩
  · rw [e1, e2, e3, e4]
    rw [hp] at hh
    have HH := Lib.hid hh
    clear hh hmm hP hT hp e1 e2 e3 e4
    go_enter Try.func56, Try.ntmps56
    go_wp2_with (go_at_call 59; refine HH.out.mono ?_; rintro e w' ⟨rfl, rfl⟩)
    go_ret2
    exact ⟨rfl, HP.out, HT.out, Turn.refl _ _ _⟩
  · rw [e1, e2, e3, e4]
    rw [hp] at hh
    rw [hm] at hmm
    have HH := Lib.hid hh
    have HM := Lib.hid hmm
    have hc := hT.c2
    have hf := hT.fm i hi
    rw [show pos (T.fr i) = T.fr i by unfold pos; rw [if_pos h0]] at hf
    have hn := hT.good.n1
    clear hh hmm hP hT hp hm e1 e2 e3 e4 h0
    generalize T.n = n at *
    generalize T.fr i = x at *
    have hi0 : (0 : Int) ≤ (i : Int) := by omega
    have hi1 : (i : Int) < (n : Int) := by omega
    go_enter Try.func56, Try.ntmps56
    go_wp2_with (first
      | (go_at_call 59; refine HH.out.mono ?_; rintro e w' ⟨rfl, rfl⟩)
      | (go_at_call 53; refine HM.out.mono ?_; rintro e w' ⟨rfl, rfl⟩))
    go_ret2
    exact ⟨rfl, HP.out, HT.out, Turn.refl _ _ _⟩
  · rw [e1, e2, e3, e4]
    rw [hp] at hh
    rw [hm] at hmm
    have HH := Lib.hid hh
    have HM := Lib.hid hmm
    have hc0 := hT.c0
    have hc1 := hT.c1
    have hc2 := hT.c2
    have hn := hT.good.n1
    have hz := hT.zh
    have hne := hT.gh.symm
    have HTK := Lib.hid (fun (W : World) (hb : Below w.heap.size w W) => take_any (T.o : Int) W (hP.below hb))
    unfold Taken at HTK
    have HBD := Lib.hid (takeF_bd (S := S) (o := (T.o : Int)))
    have HI := Lib.hid hi
    rcases takeE_or S T.o with ht | ⟨ht, ht2⟩ | ⟨ht, ht2⟩
    · rw [ht, if_pos rfl]
      rw [ht] at HTK
      have HB2 := Lib.hid (takeF_bd ht)
      generalize hF : S.takeF (T.o : Int) = F at *
      generalize hN : T.n = n at *
      generalize hO : (T.o : Int) = o at *
      have HN := Lib.hid hN
      clear hh hmm hP hT hp hm e1 e2 e3 e4 h0 HBD ht hN hF hO
      have hi0 : (0 : Int) ≤ (i : Int) := by omega
      have hi1 : (i : Int) < (n : Int) := by omega
      go_enter Try.func56, Try.ntmps56
      go_wp2_with (first
        | (go_at_call 59; refine HH.out.mono ?_; rintro e w' ⟨rfl, rfl⟩)
        | (go_at_call 53; refine HM.out.mono ?_; rintro e w' ⟨rfl, rfl⟩))
      go_region_held3 (fun w' => w'.cell? ⟨h, 0, none⟩ = some (.pointer (some ⟨g, 0, none⟩)) ∧ w'.cell? ⟨h, 1, none⟩ = some (.int .i64 o))
        (first | exact ⟨hc0, hc1⟩ | exact ⟨(ht1.cell (p := ⟨h, 0, none⟩) hz hne hne).trans hc0, (ht1.cell (p := ⟨h, 1, none⟩) hz hne hne).trans hc1⟩)
        ((go_at_call 60; refine (HTK.out _ (Below.refl _ _).drew).mono ?_; rintro e w1 ⟨rfl, hp1, ht1⟩))
      have hT1 := (HT.out.below (Below.refl _ _).drew).turnP ht1
      have d2 := hT1.c2
      have d3 := hT1.mp i (by rw [HN.out]; exact HI.out)
      have d4 := hT1.gd i (by rw [HN.out]; exact HI.out)
      have d5 := hT1.fm i (by rw [HN.out]; exact HI.out)
      have f1 := hT1.fz (i * 3)
      have f2 := hT1.fz (i * 3 + 1)
      have f3 := hT1.fz (i * 3 + 2)
      rw [HN.out] at d2
      have HP1 := Lib.hid hp1
      have HT1 := Lib.hid hT1
      have HU1 := Lib.hid (show Turn g g w w1 from ⟨ht1.os, ht1.tape, ht1.output, ht1.size, ht1.block⟩)
      clear hp1 hT1 ht1
      generalize neB (T.fr i) = x1 at *
      generalize T.gd i = x2 at *
      generalize pos (T.fr i) = x3 at *
      go_wp2
      go_ret2
      refine ⟨rfl, ?_, ?_, ?_⟩
      · exact HP1.out.keep ((Below.heap_setCell _ _ _ _ HT1.out.gr).trans ((Below.heap_setCell _ _ _ _ HT1.out.gr).trans (Below.heap_setCell _ _ _ _ HT1.out.gr)))
      · have hs := HT1.out.setEntry i (by rw [HN.out]; exact HI.out) (F : Int) (.inr ⟨by have := HB2.out; omega, by have := HB2.out; omega⟩)
        have e0 : neB (F : Int) = true := by simp [neB]
        have e1 : pos (F : Int) = F := by unfold pos; rw [if_pos (by omega)]
        unfold enC at hs
        rw [e0, e1] at hs
        simpa only [World.setCells] using hs
      · exact Turn.trans_wide HU1.out ((((Turn.refl _ _ _).setH _ _).setH _ _).setH _ _)
    · have hne2 : S.takeE (T.o : Int) ≠ 0 := by rw [ht]; decide
      rw [if_neg hne2, ht, ht2]
      rw [ht, ht2] at HTK
      generalize hO : (T.o : Int) = o at *
      clear hh hmm hP hT hp hm e1 e2 e3 e4 h0 HBD ht ht2 hO hne2
      go_enter Try.func56, Try.ntmps56
      go_wp2_with (first
        | (go_at_call 59; refine HH.out.mono ?_; rintro e w' ⟨rfl, rfl⟩)
        | (go_at_call 53; refine HM.out.mono ?_; rintro e w' ⟨rfl, rfl⟩))
      go_region_held3 (fun w' => w'.cell? ⟨h, 0, none⟩ = some (.pointer (some ⟨g, 0, none⟩)) ∧ w'.cell? ⟨h, 1, none⟩ = some (.int .i64 o))
        (first | exact ⟨hc0, hc1⟩ | exact ⟨(ht1.cell (p := ⟨h, 0, none⟩) hz hne hne).trans hc0, (ht1.cell (p := ⟨h, 1, none⟩) hz hne hne).trans hc1⟩)
        ((go_at_call 60; refine (HTK.out _ (Below.refl _ _).drew).mono ?_; rintro e w1 ⟨rfl, hp1, ht1⟩))
      have hT1 := (HT.out.below (Below.refl _ _).drew).turnP ht1
      have HP1 := Lib.hid hp1
      have HT1 := Lib.hid hT1
      have HU1 := Lib.hid (show Turn g g w w1 from ⟨ht1.os, ht1.tape, ht1.output, ht1.size, ht1.block⟩)
      clear hp1 hT1 ht1
      go_wp2
      go_ret2
      exact ⟨rfl, HP1.out, HT1.out, HU1.out.wide⟩
    · have hne2 : S.takeE (T.o : Int) ≠ 0 := by rw [ht]; decide
      rw [if_neg hne2, ht, ht2]
      rw [ht, ht2] at HTK
      generalize hO : (T.o : Int) = o at *
      clear hh hmm hP hT hp hm e1 e2 e3 e4 h0 HBD ht ht2 hO hne2
      go_enter Try.func56, Try.ntmps56
      go_wp2_with (first
        | (go_at_call 59; refine HH.out.mono ?_; rintro e w' ⟨rfl, rfl⟩)
        | (go_at_call 53; refine HM.out.mono ?_; rintro e w' ⟨rfl, rfl⟩))
      go_region_held3 (fun w' => w'.cell? ⟨h, 0, none⟩ = some (.pointer (some ⟨g, 0, none⟩)) ∧ w'.cell? ⟨h, 1, none⟩ = some (.int .i64 o))
        (first | exact ⟨hc0, hc1⟩ | exact ⟨(ht1.cell (p := ⟨h, 0, none⟩) hz hne hne).trans hc0, (ht1.cell (p := ⟨h, 1, none⟩) hz hne hne).trans hc1⟩)
        ((go_at_call 60; refine (HTK.out _ (Below.refl _ _).drew).mono ?_; rintro e w1 ⟨rfl, hp1, ht1⟩))
      have hT1 := (HT.out.below (Below.refl _ _).drew).turnP ht1
      have HP1 := Lib.hid hp1
      have HT1 := Lib.hid hT1
      have HU1 := Lib.hid (show Turn g g w w1 from ⟨ht1.os, ht1.tape, ht1.output, ht1.size, ht1.block⟩)
      clear hp1 hT1 ht1
      go_wp2
      go_ret2
      exact ⟨rfl, HP1.out, HT1.out, HU1.out.wide⟩
end
end Go.Proofs.Ytoejpdhcibbgdaa

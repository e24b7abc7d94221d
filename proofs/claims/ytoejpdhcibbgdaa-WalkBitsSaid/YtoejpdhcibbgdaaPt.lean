/-
  Take, the program's and the document's: A CONTRACT EACH.
-/
import Derived.Test.YtoejpdhcibbgdaaPe
import Derived.Deep.RegionHeld3
import Derived.Deep.QuietTactic
import Derived.BigQuiet
import Derived.Deep.Light
namespace Go.Proofs.Ytoejpdhcibbgdaa
open Go.RowKit
set_option linter.unusedSimpArgs false
set_option linter.unusedVariables false

/-- the lowest frame that is free -/
def Po.lowF (S : Po) : Option Nat := (List.range 256).find? fun f => decide (16 ≤ f) && !neB (S.own f)
/-- how Take answers: its error, its frame; what it leaves -/
def Po.takeE (S : Po) (o : Int) : Int :=
  if oB o = false then 1 else if pos (S.prom o.toNat) ≤ ((S.heldL o 256).length : Int) then 13 else if S.lowF.isSome = true then 0 else 13
def Po.takeF (S : Po) (o : Int) : Nat := if S.takeE o = 0 then S.lowF.getD 0 else 0
def Po.tk (S : Po) (f : Nat) (o : Int) : Po := { S with own := upd S.own f o, byte := upd S.byte f (fun _ => 0) }
def Po.takeS (S : Po) (o : Int) : Po := if S.takeE o = 0 then S.tk (S.takeF o) o else S
theorem lowF_none {S : Po} (h : S.lowF = none) : ∀ f, 16 ≤ f → f < 256 → neB (S.own f) = true := fun f h1 h2 => by
  have := List.find?_eq_none.1 h f (List.mem_range.2 h2)
  simpa [h1] using this
theorem lowF_some {S : Po} {f : Nat} (h : S.lowF = some f) : 16 ≤ f ∧ f < 256 ∧ neB (S.own f) = false ∧ ∀ j, 16 ≤ j → j < f → neB (S.own j) = true := by
  have h1 := List.find?_some h
  have h2 := List.mem_range.1 (List.mem_of_find?_eq_some h)
  simp at h1
  refine ⟨h1.1, h2, h1.2, fun j hj1 hj2 => ?_⟩
  obtain ⟨_, l1, l2, he, hall⟩ := List.find?_eq_some_iff_append.1 h
  have hmem : j ∈ l1 := by
    have hj : j ∈ List.range 256 := List.mem_range.2 (by omega)
    have hsort : List.Pairwise (· < ·) (List.range 256) := List.pairwise_lt_range
    rw [he] at hj hsort
    rcases List.mem_append.1 hj with h3 | h3
    · exact h3
    · have h4 := (List.pairwise_append.1 hsort).2.1
      rcases List.mem_cons.1 h3 with h5 | h5
      · omega
      · have := (List.pairwise_cons.1 h4).1 j h5; omega
  have := hall j hmem
  simpa [hj1] using this
theorem take_cases (S : Po) (o : Int) :
    (oB o = false ∧ S.takeE o = 1 ∧ S.takeF o = 0 ∧ S.takeS o = S) ∨
    (oB o = true ∧ pos (S.prom o.toNat) ≤ ((S.heldL o 256).length : Int) ∧ S.takeE o = 13 ∧ S.takeF o = 0 ∧ S.takeS o = S) ∨
    (oB o = true ∧ ((S.heldL o 256).length : Int) < pos (S.prom o.toNat) ∧ S.lowF = none ∧ S.takeE o = 13 ∧ S.takeF o = 0 ∧ S.takeS o = S) ∨
    (oB o = true ∧ ((S.heldL o 256).length : Int) < pos (S.prom o.toNat) ∧ ∃ f, S.lowF = some f ∧ S.takeE o = 0 ∧ S.takeF o = f ∧ S.takeS o = S.tk f o) := by
  cases h : oB o
  · have e : S.takeE o = 1 := by unfold Po.takeE; rw [if_pos h]
    exact .inl ⟨rfl, e, by unfold Po.takeF; rw [e]; rfl, by unfold Po.takeS; rw [e]; rfl⟩
  · by_cases h1 : pos (S.prom o.toNat) ≤ ((S.heldL o 256).length : Int)
    · have e : S.takeE o = 13 := by unfold Po.takeE; rw [if_neg (by simp [h]), if_pos h1]
      exact .inr (.inl ⟨rfl, h1, e, by unfold Po.takeF; rw [e]; rfl, by unfold Po.takeS; rw [e]; rfl⟩)
    · cases h2 : S.lowF with
      | none =>
        have e : S.takeE o = 13 := by unfold Po.takeE; rw [if_neg (by simp [h]), if_neg h1, h2]; rfl
        exact .inr (.inr (.inl ⟨rfl, by omega, rfl, e, by unfold Po.takeF; rw [e]; rfl, by unfold Po.takeS; rw [e]; rfl⟩))
      | some f =>
        have e : S.takeE o = 0 := by unfold Po.takeE; rw [if_neg (by simp [h]), if_neg h1, h2]; rfl
        have e2 : S.takeF o = f := by unfold Po.takeF; rw [if_pos e, h2]; rfl
        exact .inr (.inr (.inr ⟨rfl, by omega, f, rfl, e, e2, by unfold Po.takeS; rw [if_pos e, e2]⟩))
/-- what Take leaves -/
def Taken (S : Po) (g : Nat) (o : Int) (w : World) (e : Ending) (w' : World) : Prop :=
  e = .returned (.tuple #[.int .i64 (S.takeF o : Int), .int .i64 (S.takeE o)]) ∧ IsP w' g (S.takeS o) ∧ Turn g g w w'
def Rtaken (S : Po) (g : Nat) (o : Int) (w : World) (e : Ending) (w' : World) : Prop :=
  e = .returned (.tuple #[.int .i64 (S.takeF o : Int), .int .i64 (S.takeE o)]) ∧ IsR w' g (S.takeS o) ∧ Turn g g w w'
/-- what a region keeps of a cell that stood ahead -/
theorem held_keep {p : Addr} {x : Value} {w w1 w2 : World} (hp : p.block < w.heap.size) (h : w1.cell? p = some x ∧ Below w.heap.size w w1) (hb : Below w1.heap.size w1 w2) : w2.cell? p = some x ∧ Below w.heap.size w w2 :=
  ⟨(hb.cell (Nat.lt_of_lt_of_le hp h.2.size)).trans h.1, h.2.trans (hb.mono h.2.size)⟩
theorem ret_two {a b c d : Int} (h : a = b) (h2 : c = d) : Ending.returned (.tuple #[.int .i64 a, .int .i64 c]) = .returned (.tuple #[.int .i64 b, .int .i64 d]) := by rw [h, h2]
section
variable {g : Nat} {S : Po}
set_option maxRecDepth 100000 in
set_option maxHeartbeats 1000000 in
theorem take_any (o : Int) (w : World) (hP : IsP w g S) :
    Calls Try.prog 60 #[.pointer (some ⟨g, 0, none⟩), .int .i64 o] w (Taken S g o w) := by
  have hh := isOwner_any o
  have HP := Lib.hid hP
  have hz := hP.z
  unfold Taken
  rcases take_cases S o with ⟨ho, e1, e2, e3⟩ | ⟨ho, h1, e1, e2, e3⟩ | hrest
  · rw [e1, e2, e3]
    rw [ho] at hh
    have HH := Lib.hid hh
    clear hh hP e1 e2 e3 ho
    go_enter Try.func60, Try.ntmps60
    go_wp2_with (go_at_call 49; refine (HH.out _).mono ?_; rintro e w' ⟨rfl, rfl⟩)
    go_ret2
    exact ⟨rfl, HP.out, Turn.refl _ _ _⟩
  · rw [e1, e2, e3]
    rw [ho] at hh
    have HH := Lib.hid hh
    obtain ⟨k, rfl, hk⟩ := oB_true ho
    rw [Int.toNat_natCast] at h1
    have hc := hP.pr k hk
    have HHD := Lib.hid (fun (W : World) (h : Below w.heap.size w W) => held_any (k : Int) W (hP.below h))
    unfold Held at HHD
    have hn := heldL_le S k 256
    generalize hm : (S.heldL (↑k) 256).length = n at *
    generalize pos (S.prom k) = x at *
    clear hh hP e1 e2 e3 ho hm
    have hk0 : (0 : Int) ≤ (k : Int) := by omega
    have hk1 : (k : Int) < 4 := by omega
    go_enter Try.func60, Try.ntmps60
    go_wp2_with (go_at_call 49; refine (HH.out _).mono ?_; rintro e w' ⟨rfl, rfl⟩)
    go_region_held3 (fun w' => w'.cell? ⟨g, 16896 + k * 2 + 1, none⟩ = some (.int .i64 x) ∧ Below w.heap.size w w')
      (first | exact ⟨hc, (Below.refl _ _).drew⟩ | assumption | (refine held_keep hz ?_ hb; assumption))
      ((go_at_call 62; refine (HHD.out _ (by go_split_ands; assumption)).mono ?_; rintro e w1 ⟨A, c, rfl, hO, hb⟩))
    have hB : Below w.heap.size w w1 := by go_split_ands; assumption
    have HB := Lib.hid hB
    have HP1 := Lib.hid (HP.out.below hB)
    have hz1 := hB.size
    go_split_ands
    clear hb hB
    go_wp2
    go_ret2
    exact ⟨rfl, HP1.out, Turn.of_below HB.out⟩
  · have hx : oB o = true ∧ ((S.heldL o 256).length : Int) < pos (S.prom o.toNat) := by
      rcases hrest with ⟨h1, h2, _⟩ | ⟨h1, h2, _⟩ <;> exact ⟨h1, h2⟩
    obtain ⟨ho, h1⟩ := hx
    rw [ho] at hh
    have HH := Lib.hid hh
    obtain ⟨k, rfl, hk⟩ := oB_true ho
    rw [Int.toNat_natCast] at h1
    have hc := hP.pr k hk
    have HHD := Lib.hid (fun (W : World) (h : Below w.heap.size w W) => held_any (k : Int) W (hP.below h))
    unfold Held at HHD
    have hn := heldL_le S k 256
    have hrest2 : (S.lowF = none ∧ S.takeE k = 13 ∧ S.takeF k = 0 ∧ S.takeS k = S) ∨ (∃ f, S.lowF = some f ∧ S.takeE k = 0 ∧ S.takeF k = f ∧ S.takeS k = S.tk f k) := by
      rcases hrest with ⟨_, _, h3⟩ | ⟨_, _, h3⟩
      · exact .inl h3
      · exact .inr h3
    have HX := Lib.hid hrest2
    have HZ := Lib.hid (buildH (k : Int) (by omega))
    have hsz : (frC (k : Int)).toArray.size = 66 := by rw [List.size_toArray]; exact frC_len _
    have hto : (frC (k : Int)).toArray.toList = frC (k : Int) := List.toList_toArray
    have HSZ := Lib.hid hsz
    have HO1 := Lib.hid (frC_one (k : Int))
    have HSZ2 := Lib.hid (show (Try.prog.info? 82).map (·.size) = some (frC (k : Int)).toArray.size by rw [hsz]; kernel_rfl)
    have HTO := Lib.hid hto
    clear hrest hrest2 hsz hto
    generalize (frC (k : Int)).toArray = Z at *
    generalize hm : (S.heldL (↑k) 256).length = n at *
    generalize pos (S.prom k) = x at *
    clear hh hP ho hm
    have hk0 : (0 : Int) ≤ (k : Int) := by omega
    have hk1 : (k : Int) < 4 := by omega
    go_enter Try.func60, Try.ntmps60
    go_wp2_with (go_at_call 49; refine (HH.out _).mono ?_; rintro e w' ⟨rfl, rfl⟩)
    go_region_held3 (fun w' => w'.cell? ⟨g, 16896 + k * 2 + 1, none⟩ = some (.int .i64 x) ∧ Below w.heap.size w w')
      (first | exact ⟨hc, (Below.refl _ _).drew⟩ | assumption | (refine held_keep hz ?_ hb; assumption))
      ((go_at_call 62; refine (HHD.out _ (by go_split_ands; assumption)).mono ?_; rintro e w1 ⟨A, c, rfl, hO, hb⟩))
    have hB : Below w.heap.size w w1 := by go_split_ands; assumption
    have HB := Lib.hid hB
    have HP1 := Lib.hid (HP.out.below hB)
    have hz1 := hB.size
    go_split_ands
    clear hb hB hO hc
    have hkk : k < 4 := by omega
    have HK := Lib.hid hkk
    clear hkk
    rcases HX.out with ⟨hl, e1, e2, e3⟩ | ⟨f, hl, e1, e2, e3⟩
    · have HL := Lib.hid (lowF_none hl)
      have HE := Lib.hid (And.intro e1 (And.intro e2 e3))
      clear hl e1 e2 e3
      go_wp2
      go_loop [6] (fun i => ∃ q : Nat, 16 ≤ q ∧ q ≤ 256 ∧ i = .int .i64 q) (fun i => 256 - (intOf i).toNat)
      case atStart => exact ⟨16, by omega, by omega, rfl⟩
      case round =>
        obtain ⟨q, hq0, hq, rfl⟩ := hrel
        by_cases hlt : q < 256
        · have hcq := HP1.out.hd q hlt
          rw [HL.out q hq0 hlt] at hcq
          have HQ := Lib.hid hq0
          clear hq0
          go_wp2
          go_round
          case rel => exact ⟨q + 1, by have := HQ.out; omega, by omega, by go_num⟩
          case measure => simp [intOf]; omega
        · obtain rfl : q = 256 := by omega
          clear hq hlt hq0
          go_wp2
          go_ret2
          exact ⟨ret_two (by rw [HE.out.2.1]; rfl) HE.out.1.symm, by rw [HE.out.2.2]; exact HP1.out, Turn.of_below HB.out⟩
    · obtain ⟨l1, l2, l3, l4⟩ := lowF_some hl
      have HL := Lib.hid l4
      have HE := Lib.hid (And.intro e1 (And.intro e2 e3))
      have H16 := Lib.hid l1
      clear hl e1 e2 e3 l4
      go_wp2
      go_loop [6] (fun i => ∃ q : Nat, 16 ≤ q ∧ q ≤ f ∧ i = .int .i64 q) (fun i => 256 - (intOf i).toNat)
      case atStart => exact ⟨16, by omega, l1, rfl⟩
      case round =>
        clear l1
        obtain ⟨q, hq0, hq, rfl⟩ := hrel
        have hlt : q < 256 := by omega
        have hcq := HP1.out.hd q hlt
        by_cases hqf : q < f
        · rw [HL.out q hq0 hqf] at hcq
          have HQ := Lib.hid hq0
          have HQF := Lib.hid hqf
          clear hq0 hqf
          go_wp2
          go_round
          case rel => exact ⟨q + 1, by have := HQ.out; omega, by have := HQF.out; omega, by go_num⟩
          case measure => simp [intOf]; omega
        · obtain rfl : q = f := by omega
          rw [l3] at hcq
          have HT2 := Lib.hid (HP1.out.there q hlt)
          clear hq hqf hq0
          go_wp2_with (first
            | (refine wpList_build rfl 82 _ (by rfl) [(0, .bool true), (1, .int .i64 k)] (by rfl) (.agg Z) (HZ.out _) ?_)
            | (refine wpList_store_mid rfl 82 _ _ rfl g (q * 66) Z (by rfl) (by rfl) (by rw [HSZ.out]; exact HT2.out) HSZ2.out HO1.out ?_))
          go_ret2
          refine ⟨ret_two (by rw [HE.out.2.1]) HE.out.1.symm, ?_, ?_⟩
          · rw [HE.out.2.2, HTO.out]
            exact HP1.out.setFrame q hlt k (.inr ⟨H16.out, by omega, by have := HK.out; omega⟩)
          · exact (Turn.of_below HB.out).trans (Turn.setsG _ _ (Turn.refl _ _ _))
end
end Go.Proofs.Ytoejpdhcibbgdaa

/-
  Load of both machines: A CONTRACT EACH.
-/
import Derived.Test.YtaghblcboimbpaaMs
import Derived.Test.YtaghblcboimbpaaMq
namespace Go.Proofs.Ytaghblcboimbpaa
open Go.RowKit
set_option linter.unusedSimpArgs false
set_option linter.unusedVariables false

/-- what Load leaves: yes: the ending where it is code, no: is it the ending where it is none? -/
def Loaded (k : IntKind) (T : TypeId) (B : Nat) (P : Mp) (M : Mc) (l : List UInt8) (yes : Value) (no : Value → Prop) (w : World) (e : Ending) (w' : World) : Prop :=
  ∃ (L : List Hi) (rest : List UInt8), (∀ p ∈ L, p.Ok) ∧ l = encs L ++ rest ∧
    ((rest = [] ∧ e = .returned yes ∧ Turn P.g P.gw w w' ∧ ∃ A c, IsM k T B w' { P with A := A, cc := c } { M with C := L, p := 0 })
      ∨ (rest ≠ [] ∧ dcE (rest.take 8) ≠ 0 ∧ (∃ v, no v ∧ e = .returned v) ∧ Below w.heap.size w w'))

theorem enc_len_le {l : List UInt8} {L : List Hi} {rest : List UInt8} (h : l = encs L ++ rest) (hl : l.length ≤ 8000) : L.length ≤ 1000 := by
  have := encs_len L
  rw [h, List.length_append] at hl
  omega
theorem setC_turn {k : IntKind} {T : TypeId} {B : Nat} {w W : World} {P : Mp} {M : Mc} (hM : IsM k T B w P M) (hB : B ≤ w.heap.size) (hb : Below w.heap.size w W) {L : List Hi} (hL : ∀ p ∈ L, p.Ok) (hl : L.length ≤ 1000) {A : Option Addr} {c : Nat}
    (ho : W.ownsRow w.heap.size 35 5 (.slice A L.length c) L.length (ivs L)) :
    Turn P.g P.gw w ((W.setCell ⟨P.g, 17, none⟩ (.slice A L.length c)).setCell ⟨P.g, 18, none⟩ (.int k 0)) ∧ ∃ A' c', IsM k T B ((W.setCell ⟨P.g, 17, none⟩ (.slice A L.length c)).setCell ⟨P.g, 18, none⟩ (.int k 0)) { P with A := A', cc := c' } { M with C := L, p := 0 } :=
  ⟨((Turn.of_below hb).setG _ _).setG _ _, A, c, (hM.below hb).setC A c L hL hl (own_mono ho hB)⟩

set_option maxRecDepth 100000 in
set_option maxHeartbeats 1000000 in
theorem load_any (T : TypeId) (B : Nat) (P : Mp) (M : Mc) (A : Option Addr) (c : Nat) (l : List UInt8) (hl : l.length ≤ c) (hc : c ≤ maxLen) (h8 : l.length ≤ 8000) (w : World) (hB : B ≤ w.heap.size) (hM : IsM .u32 T B w P M) (hr : Rd w w.heap.size A (bv l)) :
    Calls Try.prog 11 #[.pointer (some ⟨P.g, 0, none⟩), .slice A l.length c] w (Loaded .u32 T B P M l (.int .i64 0) (fun v => ∃ x : Int, x ≠ 0 ∧ v = .int .i64 x) w) := by
  have HA := Lib.hid (all_any A c l hl hc (by omega) w hr)
  have HM := Lib.hid hM
  have HB := Lib.hid hB
  clear hr hM hl hc hB
  go_enter Try.func11, Try.ntmps11
  go_wp2_with fail
  refine HA.out.mono ?_
  rintro e w1 ⟨hb, L, rest, hL, hE, h | h⟩
  · obtain ⟨rfl, A1, c1, rfl, ho⟩ := h
    have hm1 := HM.out.below hb
    have k17 := hm1.cc
    have k18 := hm1.cp
    have f17 := hm1.fg 17
    have f18 := hm1.fg 18
    unfold vcs at k17
    have HF := Lib.hid (setC_turn HM.out HB.out hb hL (enc_len_le hE h8) ho)
    have HL := Lib.hid hL
    have HE := Lib.hid hE
    clear hb hL hE ho hm1 HA HM
    go_wp2_with fail
    go_ret
    exact ⟨L, [], HL.out, HE.out, .inl ⟨rfl, rfl, HF.out⟩⟩
  · obtain ⟨hne, hd, rfl⟩ := h
    have hx : (dcE (rest.take 8) != 0) = true := by simpa using hd
    have HN := Lib.hid hne
    have HD := Lib.hid hd
    have HBB := Lib.hid hb
    have HL := Lib.hid hL
    have HE := Lib.hid hE
    clear hb hL hE hne hd HA HM
    go_wp2_with fail
    go_ret
    exact ⟨L, rest, HL.out, HE.out, .inr ⟨HN.out, HD.out, ⟨_, ⟨_, HD.out, rfl⟩, rfl⟩, HBB.out⟩⟩

set_option maxRecDepth 100000 in
set_option maxHeartbeats 1000000 in
theorem rload_any (T : TypeId) (B : Nat) (P : Mp) (M : Mc) (A : Option Addr) (c : Nat) (l : List UInt8) (hl : l.length ≤ c) (hc : c ≤ maxLen) (h8 : l.length ≤ 8000) (w : World) (hB : B ≤ w.heap.size) (hM : IsM .i64 T B w P M) (hr : Rd w w.heap.size A (bv l)) :
    Calls Try.prog 12 #[.pointer (some ⟨P.g, 0, none⟩), .slice A l.length c] w (Loaded .i64 T B P M l (.bool true) (fun v => v = .bool false) w) := by
  have HA := Lib.hid (rall_any A c l hl hc (by omega) w hr)
  have HM := Lib.hid hM
  have HB := Lib.hid hB
  clear hr hM hl hc hB
  go_enter Try.func12, Try.ntmps12
  go_wp2_with fail
  refine HA.out.mono ?_
  rintro e w1 ⟨hb, L, rest, hL, hE, h | h⟩
  · obtain ⟨rfl, A1, c1, rfl, ho⟩ := h
    have hm1 := HM.out.below hb
    have k17 := hm1.cc
    have k18 := hm1.cp
    have f17 := hm1.fg 17
    have f18 := hm1.fg 18
    unfold vcs at k17
    have HF := Lib.hid (setC_turn HM.out HB.out hb hL (enc_len_le hE h8) ho)
    have HL := Lib.hid hL
    have HE := Lib.hid hE
    clear hb hL hE ho hm1 HA HM
    go_wp2_with fail
    go_ret
    exact ⟨L, [], HL.out, HE.out, .inl ⟨rfl, rfl, HF.out⟩⟩
  · obtain ⟨hne, hd, v, rfl⟩ := h
    have HN := Lib.hid hne
    have HD := Lib.hid hd
    have HBB := Lib.hid hb
    have HL := Lib.hid hL
    have HE := Lib.hid hE
    clear hb hL hE hne hd HA HM
    go_wp2_with fail
    go_ret
    exact ⟨L, rest, HL.out, HE.out, .inr ⟨HN.out, HD.out, ⟨_, rfl, rfl⟩, HBB.out⟩⟩

/-- of code that is right -/
theorem Loaded.enc {k : IntKind} {T : TypeId} {B : Nat} {P : Mp} {M : Mc} {L : List Hi} {yes : Value} {no : Value → Prop} {w w' : World} {e : Ending} (h : Loaded k T B P M (encs L) yes no w e w') (hL : ∀ p ∈ L, p.Ok) :
    e = .returned yes ∧ Turn P.g P.gw w w' ∧ ∃ A c, IsM k T B w' { P with A := A, cc := c } { M with C := L, p := 0 } := by
  obtain ⟨L', rest, hL', hE, h | h⟩ := h
  · obtain ⟨rfl, he, hT, hI⟩ := h
    obtain ⟨rfl, _⟩ := all_one L L' [] [] hL hL' (by simpa using hE) dcE_nil dcE_nil
    exact ⟨he, hT, hI⟩
  · obtain ⟨hne, hd, _⟩ := h
    obtain ⟨_, h2⟩ := all_one L L' [] rest hL hL' (by simpa using hE) dcE_nil hd
    exact absurd h2.symm hne
end Go.Proofs.Ytaghblcboimbpaa

/-
  ram: Put, PutWord, PutPage, Load, isPage: A CONTRACT EACH.
-/
import Derived.Test.YtoejpdhcibbgdaaRw
namespace Go.Proofs.Ytoejpdhcibbgdaa
open Go.RowKit
set_option linter.unusedSimpArgs false
set_option linter.unusedVariables false

/-- the row at block b holds these bytes -/
theorem IsM.newRow {w : World} {p : Bl} {X : Rm} (hM : IsM w p X) (L : List Int) (t : TypeId) : RdM (w.alloc (.cells (ub L).toArray t)) p (some ⟨w.heap.size, 0, none⟩) (ub L) := by
  obtain ⟨zg, zh, zr, zm, zu⟩ := hM.z
  refine RdM.of_new (B := w.heap.size) (Nat.le_refl _) zg zr zu (by simp) 0 (fun j u hu => ?_)
  rw [Nat.zero_add, (Blk.new w t (ub L).toArray).cell]
  simpa using hu
def Rm.putS (X : Rm) (a : Nat) (L : List Int) : Rm := if a + L.length ≤ X.n * 64 then X.wr a L else X
section
variable {p : Bl} {X : Rm}
/-- a word's bytes, the lowest first -/
def w4 (v : Int) : List Int := [v % 256, v / 256 % 256, v / 65536 % 256, v / 16777216]
theorem w4_bd {v x : Int} (hv : 0 ≤ v ∧ v < 4294967296) (h : x ∈ w4 v) : 0 ≤ x ∧ x < 256 := by
  simp only [w4, List.mem_cons, List.not_mem_nil, or_false] at h
  rcases h with rfl | rfl | rfl | rfl <;> omega
set_option maxRecDepth 100000 in
theorem putWord_any (a : Nat) (ha : a < 4294967296) (v : Int) (hv : 0 ≤ v ∧ v < 4294967296) (w : World) (hM : IsM w p X) :
    Calls Try.prog 32 #[.pointer (some ⟨p.m, 0, none⟩), .int .u32 a, .int .u32 v] w (Left p (X.putS a (w4 v)) (.bool (decide (a + 4 ≤ X.n * 64))) w) := by
  have hh := has_any a 4 ha (by omega) (by omega) w hM
  unfold Left Rm.putS
  by_cases hlt : a + 4 ≤ X.n * 64
  · have hb : Below w.heap.size w (w.alloc (.cells #[.int .u8 (v % 256), .int .u8 (v / 256 % 256), .int .u8 (v / 65536 % 256), .int .u8 (v / 16777216)] 5)) := (Below.refl _ _).alloc (Nat.le_refl _) _
    have HG := Lib.hid (write_any a (some ⟨w.heap.size, 0, none⟩) 4 4 (w4 v) rfl (fun x => w4_bd hv) _ (hM.below hb) (hM.newRow (w4 v) 5) hlt)
    have HA := Lib.hid (Alt.of_below (p := p) hb)
    rw [decide_eq_true hlt] at hh ⊢
    rw [if_pos (show a + (w4 v).length ≤ X.n * 64 from hlt)]
    have HH := Lib.hid hh
    unfold Left at HG
    clear hh hlt hM ha hb
    go_enter Try.func32, Try.ntmps32
    go_wp2_with (first
      | (go_at_call 37; refine HH.out.mono ?_; rintro e w' ⟨rfl, rfl⟩)
      | (go_at_call 41; refine HG.out.mono ?_; rintro e w' ⟨rfl, h1, h2⟩; have H1 := Lib.hid h1; have H2 := Lib.hid h2; clear h1 h2))
    go_ret
    exact ⟨rfl, H1.out, HA.out.trans H2.out⟩
  · rw [decide_eq_false hlt] at hh ⊢
    rw [if_neg (show ¬ a + (w4 v).length ≤ X.n * 64 from hlt)]
    have HH := Lib.hid hh
    have HM := Lib.hid hM
    clear hh hlt hM ha
    go_enter Try.func32, Try.ntmps32
    go_wp2_with (go_at_call 37; refine HH.out.mono ?_; rintro e w' ⟨rfl, rfl⟩)
    go_ret
    exact ⟨rfl, HM.out, Alt.refl _ _⟩
/-- is there such a page? -/
def Rm.pB (X : Rm) (k : Int) : Bool := decide (0 ≤ k ∧ k < X.n)
/-- what PutPage leaves -/
def Rm.pgS (X : Rm) (k : Int) (L : List Int) : Rm := if X.pB k = true ∧ L.length = 64 then X.wr (k.toNat * 64) L else X
def Rm.pgV (X : Rm) (k : Int) (n : Nat) : Bool := X.pB k && decide (n = 64)
/-- what Load leaves -/
def Rm.ldS (X : Rm) (L : List Int) : Rm := if L.length ≤ X.n * 64 then X.wr 0 L else X
def Rm.ldE (X : Rm) (N : Nat) : Int := if N ≤ X.n * 64 then 0 else 3
set_option maxRecDepth 100000 in
theorem loadM_any (A : Option Addr) (N c0 : Nat) (L : List Int) (hN : N = L.length) (hL : ∀ x ∈ L, 0 ≤ x ∧ x < 256) (w : World) (hM : IsM w p X) (hR : RdM w p A (ub L)) :
    Calls Try.prog 23 #[.pointer (some ⟨p.m, 0, none⟩), .slice A N c0] w (Left p (X.ldS L) (.int .i64 (X.ldE N)) w) := by
  have hh := size_any w hM
  have hn := hM.n1
  have HM := Lib.hid hM
  have HH := Lib.hid hh
  unfold Left Rm.ldS Rm.ldE
  by_cases hle : N ≤ X.n * 64
  · have HW := Lib.hid (write_any 0 A N c0 L hN hL w hM hR (by omega))
    unfold Left at HW
    rw [if_pos hle, if_pos (by rw [← hN]; exact hle)]
    clear hh hM hR hN hL
    generalize hX : X.n * 64 = M at *
    have hM4 : (M : Int) ≤ 4096 := by omega
    have i1 : (N : Int) ≤ (M : Int) := by omega
    have i2 : decide ((N : Int) > (M : Int)) = false := by simp; omega
    clear hX hn hle
    go_enter Try.func23, Try.ntmps23
    go_wp2_with (first
      | (go_at_call 35; refine HH.out.mono ?_; rintro e w' ⟨rfl, rfl⟩)
      | (go_at_call 41; refine HW.out.mono ?_; rintro e w' ⟨rfl, h1, h2⟩; have H1 := Lib.hid h1; have H2 := Lib.hid h2; clear h1 h2))
    go_ret
    exact ⟨rfl, H1.out, H2.out⟩
  · rw [if_neg hle, if_neg (by rw [← hN]; exact hle)]
    clear hh hM hR hN hL
    generalize hX : X.n * 64 = M at *
    have hM4 : (M : Int) ≤ 4096 := by omega
    have i1 : (M : Int) < (N : Int) := by omega
    have i2 : decide ((N : Int) > (M : Int)) = true := by simp; omega
    clear hX hn hle
    go_enter Try.func23, Try.ntmps23
    go_wp2_with (go_at_call 35; refine HH.out.mono ?_; rintro e w' ⟨rfl, rfl⟩)
    go_ret
    exact ⟨rfl, HM.out, Alt.refl _ _⟩
end
end Go.Proofs.Ytoejpdhcibbgdaa

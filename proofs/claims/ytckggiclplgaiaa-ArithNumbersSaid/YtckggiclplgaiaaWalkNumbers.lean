/-
  innkeeperlaw1.ArithNumbers returns true: its walk: each round of its loops asks what is true for any words.
-/
import Derived.Test.YtckggiclplgaiaaLawOne
import Derived.RowKit3
import Derived.Deep.QuietTactic
import Derived.BigQuiet
import Derived.Deep.LoopGhost
import Derived.Outline
import Derived.Lib.Hide
namespace Go.Proofs.Ytckggiclplgaiaa
open Go.RowKit
set_option linter.unusedSimpArgs false
set_option linter.unusedVariables false

/-- b is a, but for draws of orders -/
def Drawn (a b : World) : Prop := ∃ n, b = a.drewN n
theorem Drawn.refl (a : World) : Drawn a a := ⟨0, rfl⟩
theorem Drawn.draw {a b : World} (h : Drawn a b) (n : Nat) : Drawn a (b.drewN n) := by
  obtain ⟨m, rfl⟩ := h; exact ⟨m + n, by rw [World.drewN_drewN]⟩
theorem Drawn.cell {a b : World} (h : Drawn a b) (p : Addr) : b.cell? p = a.cell? p := by
  obtain ⟨m, rfl⟩ := h; rfl
theorem Drawn.grown {w a b : World} (g : Grown w a) (h : Drawn a b) : Grown w b := by
  obtain ⟨m, rfl⟩ := h; exact ⟨g.1, g.2.1, g.2.2⟩
theorem quiet_left {P : Program} {f : FuncId} {args : Array Value} {w : World} {n : Nat} {v : Value}
    (h : Calls P f args (w.drewN n) fun e w' => e = .returned v ∧ w.drewN n = w') : Calls P f args (w.drewN n) fun e w'' => e = .returned v ∧ ∃ m, w'' = w.drewN m :=
  h.mono fun _ _ ⟨he, hm⟩ => ⟨he, n, hm.symm⟩

def wd (k : Nat) : Int := [0, 1, 2, 31, 32, 33, 2147483646, 2147483647, 2147483648, 2147483649, 4294967294, 4294967295].getD k 0
theorem wd_bd (k : Nat) (h : k < 12) : 0 ≤ wd k ∧ wd k < 4294967296 := by
  have : ∀ k : Fin 12, 0 ≤ wd k.val ∧ wd k.val < 4294967296 := by decide
  exact this ⟨k, h⟩

theorem wd_cell (k : Nat) (h : k < 12) : (#[.int .u32 0, .int .u32 1, .int .u32 2, .int .u32 31, .int .u32 32, .int .u32 33, .int .u32 2147483646, .int .u32 2147483647, .int .u32 2147483648, .int .u32 2147483649, .int .u32 4294967294, .int .u32 4294967295] : Array Value)[k]? = some (.int .u32 (wd k)) := by
  have hk' : k = 0 ∨ k = 1 ∨ k = 2 ∨ k = 3 ∨ k = 4 ∨ k = 5 ∨ k = 6 ∨ k = 7 ∨ k = 8 ∨ k = 9 ∨ k = 10 ∨ k = 11 := by omega
  rcases hk' with rfl | rfl | rfl | rfl | rfl | rfl | rfl | rfl | rfl | rfl | rfl | rfl <;> rfl

set_option maxRecDepth 100000 in
set_option maxHeartbeats 1000000 in
theorem numbers_walk (w : World) :
    Calls Try.prog 3 #[] w fun e w' => e = .returned (.bool true) ∧ Grown w w' := by
  go_enter Try.func3, Try.ntmps3
  go_wp2_with fail
  obtain ⟨W0, hW0⟩ : ∃ W0, W0 = w.alloc (.cells #[.int .u32 0, .int .u32 1, .int .u32 2, .int .u32 31, .int .u32 32, .int .u32 33, .int .u32 2147483646, .int .u32 2147483647, .int .u32 2147483648, .int .u32 2147483649, .int .u32 4294967294, .int .u32 4294967295] 22) := ⟨_, rfl⟩
  have hg : Grown w W0 := by rw [hW0]; exact (Grown.refl w).alloc _ _
  have hcell : ∀ k, k < 12 → W0.cell? ⟨w.heap.size, k, none⟩ = some (.int .u32 (wd k)) := by
    intro k hk
    rw [hW0, World.cell?_alloc_new]
    exact wd_cell k hk
  rw [← hW0]
  generalize w.heap.size = B at *
  clear hW0
  go_loopw [2] (fun o wr => ∃ op : Int, -1 ≤ op ∧ op ≤ 80 ∧ o = .int .i64 op ∧ Drawn W0 wr) (fun o _ => (80 - intOf o).toNat)
  case atStart => exact ⟨-1, by omega, by omega, rfl, Drawn.refl _⟩
  case round =>
    obtain ⟨op, ho1, ho2, rfl, hd⟩ := hrel
    by_cases hlt : op < 80
    · go_wp2_with fail
      obtain ⟨wo, rfl⟩ : ∃ wo : World, wo = wr := ⟨_, rfl⟩
      go_loopw [3] (fun i wr => ∃ k : Nat, k ≤ 12 ∧ i = .int .i64 k ∧ Drawn W0 wr) (fun i _ => 12 - (intOf i).toNat)
      case atStart => exact ⟨0, by omega, rfl, hd⟩
      case round =>
        obtain ⟨k, hk, rfl, hd1⟩ := hrel
        by_cases hk12 : k < 12
        · go_wp2_with fail
          obtain ⟨wp, rfl⟩ : ∃ wp : World, wp = wr := ⟨_, rfl⟩
          go_loopw [4] (fun i wr => ∃ l : Nat, l ≤ 12 ∧ i = .int .i64 l ∧ Drawn W0 wr) (fun i _ => 12 - (intOf i).toNat)
          case atStart => exact ⟨0, by omega, rfl, hd1⟩
          case round =>
            obtain ⟨l, hl, rfl, hd2⟩ := hrel
            by_cases hl12 : l < 12
            · have g1 : wr.cell? ⟨B, k, none⟩ = some (.int .u32 (wd k)) := by rw [hd2.cell]; exact hcell k hk12
              have g2 : wr.cell? ⟨B, l, none⟩ = some (.int .u32 (wd l)) := by rw [hd2.cell]; exact hcell l hl12
              obtain ⟨a0, a1⟩ := wd_bd k hk12
              obtain ⟨b0, b1⟩ := wd_bd l hl12
              have hcl := Lib.hid hcell
              clear hcell
              go_wp2_with fail
              go_quiet ((go_at_call 9; exact quiet_left (same_any _ _ _ a0 a1 b0 b1 _)))
              go_wp2_with fail
              go_roundw
              case rel => exact ⟨l + 1, by omega, by go_num, hd2.draw _⟩
              case measure => simp [intOf]; omega
            · go_wp2_with (first | (go_at_call 10; refine (holds_any _ _ _).mono ?_; rintro e w' ⟨rfl, rfl⟩) | (go_at_call 11; refine (rholds_any _ _ _).mono ?_; rintro e w' ⟨rfl, rfl⟩))
              go_roundw
              case rel => exact ⟨k + 1, by omega, by go_num, hd2⟩
              case measure => simp [intOf]; omega
        · go_wp2_with fail
          go_roundw
          case rel => exact ⟨op + 1, by omega, by omega, by go_num, hd1⟩
          case measure => simp [intOf]; omega
    · go_wp2_with fail
      obtain ⟨wo, rfl⟩ : ∃ wo : World, wo = wr := ⟨_, rfl⟩
      go_loopw [9] (fun b wr => ∃ k : Nat, k ≤ 300 ∧ b = .int .u32 k ∧ Drawn W0 wr) (fun b _ => 300 - (intOf b).toNat)
      case atStart => exact ⟨0, by omega, rfl, hd⟩
      case round =>
        obtain ⟨k, hk, rfl, hd1⟩ := hrel
        by_cases hk3 : k < 300
        · go_wp2_with (first | (go_at_call 12; refine (sign_any _ (by omega) (by omega) _).mono ?_; rintro e w' ⟨rfl, rfl⟩) | (go_at_call 13; refine (rsign_any _ (by omega) (by omega) _).mono ?_; rintro e w' ⟨rfl, rfl⟩))
          go_roundw
          case rel => exact ⟨k + 1, by omega, by go_num, hd1⟩
          case measure => simp [intOf]; omega
        · go_wp2_with (go_at_call 14; refine (known_any _).mono ?_; rintro e w' ⟨rfl, rfl⟩)
          go_ret
          exact ⟨rfl, hd1.grown hg⟩
end Go.Proofs.Ytckggiclplgaiaa

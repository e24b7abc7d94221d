/-
  hcode's names of operations, innkeeperref3.Name, innkeeperlaw3.digits: A CONTRACT EACH.
-/
import Derived.Test.YthobedekeebadaaDoorGc3
import Derived.Test.YthobedekeebadaaDoorHc2
import Derived.Lib.Hide
import Derived.Deep.LoopGhost
namespace Go.Proofs.YthobedekeebadaaDoor
open Go.RowKit
set_option linter.unusedSimpArgs false
set_option linter.unusedVariables false

theorem ret_str {a b : List UInt8} (h : a = b) : Ending.returned (.string ⟨a.toArray⟩) = .returned (.string ⟨b.toArray⟩) := by rw [h]
/-- an operation's name -/
def nmH (op : Int) : List UInt8 :=
  if op = 0 then [110, 111, 112]
  else if op = 1 then [108, 105]
  else if op = 2 then [109, 111, 118]
  else if op = 3 then [97, 100, 100]
  else if op = 4 then [115, 117, 98]
  else if op = 5 then [97, 110, 100]
  else if op = 6 then [111, 114]
  else if op = 7 then [120, 111, 114]
  else if op = 8 then [115, 104, 108]
  else if op = 9 then [115, 104, 114]
  else if op = 10 then [109, 117, 108]
  else if op = 11 then [100, 105, 118]
  else if op = 12 then [108, 116, 117]
  else if op = 13 then [101, 113]
  else if op = 14 then [108, 100]
  else if op = 15 then [115, 116]
  else if op = 16 then [98, 101, 113, 122]
  else if op = 17 then [98, 110, 101, 122]
  else if op = 18 then [106, 109, 112]
  else if op = 19 then [101, 120, 105, 116]
  else []
theorem len_ite {c : Prop} [Decidable c] {a b : List UInt8} (ha : a.length ≤ 5) (hb : b.length ≤ 5) : (if c then a else b).length ≤ 5 := by split <;> assumption
theorem nm_len (op : Int) : (nmH op).length ≤ 5 := by
  unfold nmH
  repeat' (refine len_ite ?_ ?_)
  all_goals decide
theorem dec_len (u : Nat) (h : u < 18446744073709551616) : (Lib.decDigits u).length ≤ 20 := by
  rw [Lib.decDigits_length]
  rcases Nat.eq_zero_or_pos u with h0 | h0
  · subst h0; rw [Lib.nDigits_small (by omega)]; omega
  · have := Lib.numDigits_eq u h0 h; split at this <;> omega

set_option maxRecDepth 100000 in
set_option maxHeartbeats 2000000 in
theorem name_any (op : Int) (h : isO op = true) (w : World) :
    Calls Tryd.prog 23 #[.int .i64 op] w fun e w' => e = .returned (.string ⟨(nmH op).toArray⟩) ∧ w = w' := by
  have H0 := Lib.hid h
  clear h
  go_enter Tryd.func23, Tryd.ntmps23
  go_wp2
  all_goals (go_ret; refine ⟨?_, rfl⟩)
  all_goals (have h0 := H0.out; clear H0; simp only [isO, decide_eq_true_eq] at h0; simp only [beq_iff_eq, beq_eq_false_iff_ne, ne_eq] at *; first | (exfalso; omega) | (subst op; rfl))
theorem nm_cell (k : Nat) (h : k < 20) : (#[.string ⟨#[110, 111, 112]⟩, .string ⟨#[108, 105]⟩, .string ⟨#[109, 111, 118]⟩, .string ⟨#[97, 100, 100]⟩, .string ⟨#[115, 117, 98]⟩, .string ⟨#[97, 110, 100]⟩, .string ⟨#[111, 114]⟩, .string ⟨#[120, 111, 114]⟩, .string ⟨#[115, 104, 108]⟩, .string ⟨#[115, 104, 114]⟩, .string ⟨#[109, 117, 108]⟩, .string ⟨#[100, 105, 118]⟩, .string ⟨#[108, 116, 117]⟩, .string ⟨#[101, 113]⟩, .string ⟨#[108, 100]⟩, .string ⟨#[115, 116]⟩, .string ⟨#[98, 101, 113, 122]⟩, .string ⟨#[98, 110, 101, 122]⟩, .string ⟨#[106, 109, 112]⟩, .string ⟨#[101, 120, 105, 116]⟩] : Array Value)[k]? = some (.string ⟨(nmH (k : Int)).toArray⟩) := by
  have h20 : k = 0 ∨ k = 1 ∨ k = 2 ∨ k = 3 ∨ k = 4 ∨ k = 5 ∨ k = 6 ∨ k = 7 ∨ k = 8 ∨ k = 9 ∨ k = 10 ∨ k = 11 ∨ k = 12 ∨ k = 13 ∨ k = 14 ∨ k = 15 ∨ k = 16 ∨ k = 17 ∨ k = 18 ∨ k = 19 := by omega
  rcases h20 with rfl | rfl | rfl | rfl | rfl | rfl | rfl | rfl | rfl | rfl | rfl | rfl | rfl | rfl | rfl | rfl | rfl | rfl | rfl | rfl <;> rfl
set_option maxRecDepth 100000 in
set_option maxHeartbeats 2000000 in
theorem rname_any (op : Int) (h : isO op = true) (w : World) :
    Calls Tryd.prog 17 #[.int .i64 op] w fun e w' => e = .returned (.string ⟨(nmH op).toArray⟩) ∧ Below w.heap.size w w' := by
  simp only [isO, decide_eq_true_eq] at h
  obtain ⟨k, rfl⟩ : ∃ k : Nat, op = k := ⟨op.toNat, by omega⟩
  have hk : k < 20 := by omega
  have hcell : (w.alloc (.cells #[.string ⟨#[110, 111, 112]⟩, .string ⟨#[108, 105]⟩, .string ⟨#[109, 111, 118]⟩, .string ⟨#[97, 100, 100]⟩, .string ⟨#[115, 117, 98]⟩, .string ⟨#[97, 110, 100]⟩, .string ⟨#[111, 114]⟩, .string ⟨#[120, 111, 114]⟩, .string ⟨#[115, 104, 108]⟩, .string ⟨#[115, 104, 114]⟩, .string ⟨#[109, 117, 108]⟩, .string ⟨#[100, 105, 118]⟩, .string ⟨#[108, 116, 117]⟩, .string ⟨#[101, 113]⟩, .string ⟨#[108, 100]⟩, .string ⟨#[115, 116]⟩, .string ⟨#[98, 101, 113, 122]⟩, .string ⟨#[98, 110, 101, 122]⟩, .string ⟨#[106, 109, 112]⟩, .string ⟨#[101, 120, 105, 116]⟩] 9)).cell? ⟨w.heap.size, k, none⟩ = some (.string ⟨(nmH (k : Int)).toArray⟩) := by
    rw [World.cell?_alloc_new]; exact nm_cell k hk
  generalize (⟨(nmH (k : Int)).toArray⟩ : ByteArray) = R at *
  have HB := Lib.hid ((Below.refl w.heap.size w).alloc (Nat.le_refl _) (.cells #[.string ⟨#[110, 111, 112]⟩, .string ⟨#[108, 105]⟩, .string ⟨#[109, 111, 118]⟩, .string ⟨#[97, 100, 100]⟩, .string ⟨#[115, 117, 98]⟩, .string ⟨#[97, 110, 100]⟩, .string ⟨#[111, 114]⟩, .string ⟨#[120, 111, 114]⟩, .string ⟨#[115, 104, 108]⟩, .string ⟨#[115, 104, 114]⟩, .string ⟨#[109, 117, 108]⟩, .string ⟨#[100, 105, 118]⟩, .string ⟨#[108, 116, 117]⟩, .string ⟨#[101, 113]⟩, .string ⟨#[108, 100]⟩, .string ⟨#[115, 116]⟩, .string ⟨#[98, 101, 113, 122]⟩, .string ⟨#[98, 110, 101, 122]⟩, .string ⟨#[106, 109, 112]⟩, .string ⟨#[101, 120, 105, 116]⟩] 9))
  clear h
  go_enter Tryd.func17, Tryd.ntmps17
  go_wp2
  go_ret
  exact ⟨rfl, HB.out⟩

theorem dec_ne (u : Nat) : Lib.decDigits u ≠ [] := by
  intro h
  have := Lib.decDigits_length u
  rw [h] at this
  have := Lib.nDigits_pos u
  simp at *; omega
theorem dec_step (m : Nat) (h : 0 < m) : Lib.decDigits m = (if m / 10 = 0 then [] else Lib.decDigits (m / 10)) ++ [UInt8.ofNat (48 + m % 10)] := by
  rw [Lib.decDigits]
  split
  · rename_i h1
    rw [if_pos (by omega), Nat.mod_eq_of_lt h1]; rfl
  · rw [if_neg (by omega)]
set_option maxRecDepth 100000 in
set_option maxHeartbeats 1000000 in
theorem digits_pos (u : Nat) (hu : u < 4294967296) (hp : 0 < u) (w : World) :
    Calls Tryd.prog 18 #[.int .u32 u] w fun e w' => e = .returned (.string ⟨(Lib.decDigits u).toArray⟩) ∧ w = w' := by
  have hlen := dec_len u (by omega)
  go_enter Tryd.func18, Tryd.ntmps18
  go_wp2_with fail
  go_loop [0, 3] (fun vn vs => ∃ (m : Nat) (l : List UInt8), vn = .int .u32 m ∧ vs = .string ⟨l.toArray⟩ ∧ m ≤ u ∧ l.length ≤ 20 ∧ Hid (Lib.decDigits u = (if m = 0 then [] else Lib.decDigits m) ++ l)) (fun vn vs => (intOf vn).toNat)
  case atStart => exact ⟨u, [], rfl, rfl, by omega, by simp, Lib.hid (by rw [if_neg (by omega)]; simp)⟩
  case round =>
    obtain ⟨m, l, rfl, rfl, hm, hl, h1⟩ := hrel
    by_cases hm0 : 0 < m
    · have hen : Utf8.encode (48 + (m : Int) % 10) = ⟨#[UInt8.ofNat (48 + m % 10)]⟩ := by
        have e : (48 + (m : Int) % 10).toNat = 48 + m % 10 := by omega
        have hv : Utf8.valid (48 + (m : Int) % 10) = true := by unfold Utf8.valid; simp; omega
        unfold Utf8.encode
        rw [hv]
        simp only [if_true, e]
        rw [if_pos (by omega)]
      have hsz : ¬ 9223372036854775807 < (Utf8.encode (48 + (m : Int) % 10)).size + l.length := by
        rw [hen]; show ¬ 9223372036854775807 < 1 + l.length; omega
      have hl20 : (UInt8.ofNat (48 + m % 10) :: l).length ≤ 20 := by
        have e := h1.out
        rw [if_neg (by omega), dec_step m hm0] at e
        rw [e] at hlen
        simp at hlen ⊢; omega
      have HEN := Lib.hid hen
      clear hen
      go_wp2_with fail
      go_round
      case rel =>
        refine ⟨m / 10, UInt8.ofNat (48 + m % 10) :: l, by go_num, ?_, by omega, hl20, ?_⟩
        · rw [HEN.out, ByteArray.mk_append_mk]; simp
        · apply Lib.hid
          have e := h1.out
          rw [if_neg (by omega), dec_step m hm0] at e
          rw [e]; simp
      case measure => simp [intOf]; omega
    · obtain rfl : m = 0 := by omega
      have e := h1.out
      rw [if_pos rfl, List.nil_append] at e
      have hne : l ≠ [] := by rw [← e]; exact dec_ne u
      have hne2 : l.isEmpty = false := by cases l <;> simp_all
      go_wp2_with fail
      go_ret
      exact ⟨rfl, rfl⟩
theorem digits_any (u : Nat) (hu : u < 4294967296) (w : World) :
    Calls Tryd.prog 18 #[.int .u32 u] w fun e w' => e = .returned (.string ⟨(Lib.decDigits u).toArray⟩) ∧ w = w' := by
  rcases Nat.eq_zero_or_pos u with h | h
  · subst h
    rw [show Lib.decDigits 0 = [48] by rw [Lib.decDigits]; rfl]
    have hen : Utf8.encode 48 = ⟨#[48]⟩ := by decide
    have hap : (⟨#[48]⟩ : ByteArray) ++ ⟨#[]⟩ = ⟨#[48]⟩ := by decide
    go_enter Tryd.func18, Tryd.ntmps18
    go_wp2_with fail
    refine wp_loop_rounds 2 ?_
    rw [rounds_succ]
    go_wp2
    rw [rounds_succ]
    go_wp2
    go_ret
    exact ⟨rfl, rfl⟩
  · exact digits_pos u hu h w
end Go.Proofs.YthobedekeebadaaDoor

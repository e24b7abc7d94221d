/-
  CODE THAT IS CUT OFF; bytes that are cut off.
-/
import Derived.Test.YtaghblcboimbpaaHp
import Derived.Test.YtaghblcboimbpaaRowH
namespace Go.Proofs.Ytaghblcboimbpaa
open Go.RowKit
set_option linter.unusedSimpArgs false
set_option linter.unusedVariables false

theorem take_encs (L : List Hi) (j t : Nat) (hj : j ≤ L.length) : (encs L).take (8 * j + t) = encs (L.take j) ++ (encs (L.drop j)).take t := by
  have h : encs L = encs (L.take j) ++ encs (L.drop j) := by rw [← encs_append, List.take_append_drop]
  have hl : (encs (L.take j)).length = 8 * j := by rw [encs_len, List.length_take]; omega
  rw [h, ← hl, List.take_length_add_append]
/-- what is read of code that is cut off -/
theorem cut_code (L : List Hi) (hL : ∀ p ∈ L, p.Ok) (kk : Nat) (hk : kk ≤ 8 * L.length) (M : List Hi) (r : List UInt8) (hM : ∀ p ∈ M, p.Ok) (h : (encs L).take kk = encs M ++ r) (hr : dcE (r.take 8) ≠ 0) :
    M = L.take (kk / 8) ∧ r.length = kk % 8 := by
  have e : kk = 8 * (kk / 8) + kk % 8 := by omega
  have h1 := take_encs L (kk / 8) (kk % 8) (by omega)
  rw [← e, h] at h1
  have hl : ((encs (L.drop (kk / 8))).take (kk % 8)).length = kk % 8 := by rw [List.length_take, encs_len, List.length_drop]; omega
  obtain ⟨q1, q2⟩ := all_one M (L.take (kk / 8)) r _ hM (fun p hp => hL p (List.mem_of_mem_take hp)) h1 hr (by rw [dcE_short (by omega)]; decide)
  exact ⟨q1, by rw [q2, hl]⟩

theorem slice_hi (A : Option Addr) (n c k : Nat) (hk : k ≤ c) (hc : c ≤ maxLen) (hA : A = none → c = 0) (w : World) :
    (Instr.sliceAt 31 (.slice A n c) none (some (.int .i64 k)) none).run Try.prog w = .ok (.slice A k c) w := by
  unfold maxLen at hc
  rcases A with _ | a
  · obtain rfl := hA rfl
    obtain rfl : k = 0 := by omega
    go_simp
  · go_simp
theorem cut_any (A : Option Addr) (len c n : Nat) (hl : len ≤ c) (hc : c ≤ maxLen) (hA : A = none → c = 0) (w : World) :
    Calls Try.prog 23 #[.slice A len c, .int .i64 n] w fun e w' => e = .returned (.slice A (min len n) c) ∧ w = w' := by
  unfold maxLen at hc
  by_cases h : n < len
  · have e : min len n = n := by omega
    rw [e]
    rcases A with _ | a
    · have := hA rfl; omega
    · clear hA e
      go_enter Try.func23, Try.ntmps23
      go_wp2
      go_ret
      exact ⟨rfl, rfl⟩
  · have e : min len n = len := by omega
    rw [e]
    clear hA e
    go_enter Try.func23, Try.ntmps23
    go_wp2
    go_ret
    exact ⟨rfl, rfl⟩
end Go.Proofs.Ytaghblcboimbpaa

/-
  frames: allPromised: A CONTRACT; how Promise answers.
-/
import Derived.Test.YtoejpdhcibbgdaaPn
import Derived.Test.YtoejpdhcibbgdaaPh
import Derived.Deep.MidRow
namespace Go.Proofs.Ytoejpdhcibbgdaa
open Go.RowKit
set_option linter.unusedSimpArgs false
set_option linter.unusedVariables false

/-- what the first k owners were promised, together -/
def Po.allP (S : Po) : Nat → Int
  | 0 => 0
  | k + 1 => S.allP k + pos (S.prom k)
theorem allP_bd {S : Po} (h : S.Good) : ∀ k, 0 ≤ S.allP k ∧ S.allP k ≤ 64 * k
  | 0 => by simp [Po.allP]
  | k + 1 => by
    have := allP_bd h k
    have := pos_bd h k
    simp only [Po.allP]
    omega
/-- how Promise answers -/
def Po.promV (S : Po) (o n : Int) : Int :=
  if oB o = false ∨ n < 0 ∨ 64 < n then 1 else if neB (S.prom o.toNat) = true then 24 else if 240 < S.allP 4 + n then 13 else 0
def Po.promS (S : Po) (o n : Int) : Po := if S.promV o n = 0 then { S with prom := upd S.prom o.toNat n } else S

theorem index_prom (b0 b1 b2 b3 : Bool) (n0 n1 n2 n3 : Int) (b : Bool) (n : Int) (k : Nat) (hk : k < 4) (h : [(b0, n0), (b1, n1), (b2, n2), (b3, n3)][k]? = some (b, n)) (w : World) :
    (Instr.index 86 (.agg #[.bool b0, .int .i64 n0, .bool b1, .int .i64 n1, .bool b2, .int .i64 n2, .bool b3, .int .i64 n3]) (.int .i64 k)).run Try.prog w = .ok (.agg #[.bool b, .int .i64 n]) w := by
  obtain rfl | rfl | rfl | rfl : k = 0 ∨ k = 1 ∨ k = 2 ∨ k = 3 := by omega
  all_goals
    simp at h
    obtain ⟨rfl, rfl⟩ := h
    kernel_rfl
section
variable {g : Nat} {S : Po}
set_option maxRecDepth 100000 in
theorem allPromised_any (w : World) (hP : IsP w g S) :
    Calls Try.prog 50 #[.pointer (some ⟨g, 0, none⟩)] w fun e w' => e = .returned (.int .i64 (S.allP 4)) ∧ Below w.heap.size w w' := by
  have hr : w.rangeAt g 16896 [.bool (neB (S.prom 0)), .int .i64 (pos (S.prom 0)), .bool (neB (S.prom 1)), .int .i64 (pos (S.prom 1)), .bool (neB (S.prom 2)), .int .i64 (pos (S.prom 2)), .bool (neB (S.prom 3)), .int .i64 (pos (S.prom 3))] := fun j v hv => by
    match j, hv with
    | 0, hv => simp at hv; subst hv; exact hP.md 0 (by omega)
    | 1, hv => simp at hv; subst hv; exact hP.pr 0 (by omega)
    | 2, hv => simp at hv; subst hv; exact hP.md 1 (by omega)
    | 3, hv => simp at hv; subst hv; exact hP.pr 1 (by omega)
    | 4, hv => simp at hv; subst hv; exact hP.md 2 (by omega)
    | 5, hv => simp at hv; subst hv; exact hP.pr 2 (by omega)
    | 6, hv => simp at hv; subst hv; exact hP.md 3 (by omega)
    | 7, hv => simp at hv; subst hv; exact hP.pr 3 (by omega)
    | j + 8, hv => simp at hv
  have hI := fun (k : Nat) (hk : k < 4) (W : World) => index_prom (neB (S.prom 0)) (neB (S.prom 1)) (neB (S.prom 2)) (neB (S.prom 3)) (pos (S.prom 0)) (pos (S.prom 1)) (pos (S.prom 2)) (pos (S.prom 3)) (neB (S.prom k)) (pos (S.prom k)) k hk (by
    obtain rfl | rfl | rfl | rfl : k = 0 ∨ k = 1 ∨ k = 2 ∨ k = 3 := by omega
    all_goals rfl) W
  have HR := Lib.hid hr
  have HI := Lib.hid hI
  have HG := Lib.hid hP.good
  clear hr hI hP
  generalize neB (S.prom 0) = b0 at *
  generalize neB (S.prom 1) = b1 at *
  generalize neB (S.prom 2) = b2 at *
  generalize neB (S.prom 3) = b3 at *
  generalize pos (S.prom 0) = n0 at *
  generalize pos (S.prom 1) = n1 at *
  generalize pos (S.prom 2) = n2 at *
  generalize pos (S.prom 3) = n3 at *
  go_enter Try.func50, Try.ntmps50
  go_wp2_with (refine wpList_load_mid rfl 86 _ rfl g 16896 (by rfl) _ _ HR.out Try.underlying86 rfl (by kernel_rfl) ?_)
  go_loopw [3, 10] (fun s i wr => ∃ (k : Nat) (m : Int), k ≤ 4 ∧ 0 ≤ m ∧ m ≤ 256 ∧ i = .int .i64 k ∧ s = .int .i64 m ∧ Hid (m = S.allP k) ∧ Hid (Below w.heap.size w wr)) (fun _ i _ => 4 - (intOf i).toNat)
  case atStart => exact ⟨0, 0, by omega, by omega, by omega, rfl, rfl, Lib.hid rfl, Lib.hid (Below.refl _ _)⟩
  case round =>
    obtain ⟨k, m, hk, hm0, hm1, rfl, rfl, hM, hB⟩ := hrel
    by_cases hlt : k < 4
    · have hi := HI.out k hlt
      have hp := pos_bd HG.out k
      have hz := hB.out.size
      have hs : S.allP (k + 1) = S.allP k + pos (S.prom k) := rfl
      have hb := allP_bd HG.out (k + 1)
      have hm := hM.out
      have hb1 : 0 ≤ m + pos (S.prom k) ∧ m + pos (S.prom k) ≤ 256 := by omega
      have HS := Lib.hid hs
      clear hs hb hm
      generalize neB (S.prom k) = b at *
      generalize pos (S.prom k) = n at *
      go_wp2
      go_roundw
      case rel => exact ⟨k + 1, m + n, by omega, hb1.1, hb1.2, by go_num, rfl, Lib.hid (by rw [HS.out, hM.out]), Lib.hid ((hB.out.alloc hz _))⟩
      case measure => simp [intOf]; omega
    · obtain rfl : k = 4 := by omega
      clear hk hlt
      have hM' := hM.out
      subst hM'
      go_wp2
      go_ret
      exact ⟨rfl, hB.out⟩
end
end Go.Proofs.Ytoejpdhcibbgdaa

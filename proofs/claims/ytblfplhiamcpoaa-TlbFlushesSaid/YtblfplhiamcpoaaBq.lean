/-
  innkeeperref10's buffer: Drop, Flush: A CONTRACT EACH.
-/
import Derived.Test.YtblfplhiamcpoaaBr
namespace Go.Proofs.Ytblfplhiamcpoaa
open Go.RowKit
set_option linter.unusedSimpArgs false
set_option linter.unusedVariables false

section
variable {g : Nat} {S : Nat → En}
/-- what a call leaves that turns the document's buffer -/
def LfU (g : Nat) (Y : Nat → En) (r0 : Ending) (w : World) (r : Ending) (w' : World) : Prop :=
  r = r0 ∧ IsE w' g 1 Y ∧ Turn g g w w'
theorem upd_self {α : Type} (F : Nat → α) (i : Nat) (x : α) (h : F i = x) : upd F i x = F := by
  funext j; unfold upd; split
  · rename_i e; rw [e, h]
  · rfl
set_option maxRecDepth 100000 in
theorem rdrop_any (V : Int) (h0 : 0 ≤ V) (h1 : V < 4294967296) (w : World) (hE : IsE w g 1 S) :
    Calls Try.prog 18 #[.pointer (some ⟨g, 0, none⟩), .int .u32 V] w (LfU g (dropS S V) (.returned (.tuple #[])) w) := by
  have hj := sl_lt (V / 64)
  have c1 := hE.c1 _ hj
  have hz := hE.z
  have hset := hE.set (sl (V / 64)) hj en0 en0_ok
  have hth := hE.there (sl (V / 64)) hj
  have hcs : en0.cs = [.bool false, .int .u32 0, .int .u32 0, .int .u32 0] := rfl
  rw [hcs] at hset
  unfold LfU dropS
  have hq : V.tdiv 64 = V / 64 := Int.tdiv_eq_ediv_of_nonneg h0
  have hm : (V / 64).tmod 16 = ((sl (V / 64) : Nat) : Int) := by rw [Int.tmod_eq_emod_of_nonneg (by omega), sl_cast]
  have hm2 : (V / 64) % 16 = ((sl (V / 64) : Nat) : Int) := by rw [sl_cast]
  have hzz : (S (sl (V / 64))).v = false → upd S (sl (V / 64)) en0 = S := fun h => upd_self _ _ _ ((hE.ok (sl (V / 64))).z h)
  have hYt : (S (sl (V / 64))).n = V / 64 → upd S (sl (V / 64)) en0 = (if (S (sl (V / 64))).v = true ∧ (S (sl (V / 64))).n = V / 64 then upd S (sl (V / 64)) en0 else S) := fun h => by
    split
    · rfl
    · rename_i hh
      exact hzz (by cases hv : (S (sl (V / 64))).v with | true => exact absurd ⟨hv, h⟩ hh | false => rfl)
  have hYf : ¬ ((S (sl (V / 64))).n = V / 64) → S = (if (S (sl (V / 64))).v = true ∧ (S (sl (V / 64))).n = V / 64 then upd S (sl (V / 64)) en0 else S) := fun h => by
    rw [if_neg (fun hh => h hh.2)]
  generalize (if (S (sl (V / 64))).v = true ∧ (S (sl (V / 64))).n = V / 64 then upd S (sl (V / 64)) en0 else S) = Y at *
  have hj0 : (0 : Int) ≤ ((sl (V / 64) : Nat) : Int) := by omega
  have hj1 : ((sl (V / 64) : Nat) : Int) < 16 := by omega
  have hjc : (((sl (V / 64) : Nat) : Int)).toNat = sl (V / 64) := by omega
  clear hzz hcs
  generalize sl (V / 64) = j at *
  generalize (S j).n = n at *
  have HE := Lib.hid hE
  have HSET := Lib.hid hset
  have HTH := Lib.hid hth
  have hQ0 : 0 ≤ V / 64 := by omega
  have hQ1 : V / 64 < 67108864 := by omega
  clear hE hset hth
  generalize V / 64 = Q at *
  by_cases hn : n = Q
  · have HY := Lib.hid (hYt hn)
    subst hn
    have hnn : (n == n) = true := by simp
    clear hYt hYf
    go_enter Try.func18, Try.ntmps18
    go_wp2_with (refine wpList_store_mid rfl 35 _ _ rfl g (1 + j * 4) #[.bool false, .int .u32 0, .int .u32 0, .int .u32 0] (by rfl) (by rfl) HTH.out Try.info_ent9 (ag_one _ _ _ _) ?_)
    refine bodyPost_end (v := .tuple #[]) (by simp [results, Try.results18, go_sem]) rfl ?_
    refine ⟨rfl, ?_, Turn.setsG _ _ (Turn.refl _ _ _)⟩
    rw [← HY.out]; exact HSET.out
  · have HY := Lib.hid (hYf hn)
    have hnn : (n == Q) = false := by simpa using hn
    clear hYt hYf hn
    go_enter Try.func18, Try.ntmps18
    go_wp2_with fail
    refine bodyPost_end (v := .tuple #[]) (by simp [results, Try.results18, go_sem]) rfl ?_
    exact ⟨rfl, by rw [← HY.out]; exact HE.out, Turn.refl _ _ _⟩
theorem rflush_any (w : World) (hE : IsE w g 1 S) :
    Calls Try.prog 19 #[.pointer (some ⟨g, 0, none⟩)] w (LfU g (fun _ => en0) (.returned (.tuple #[])) w) := by
  have HC := Lib.hid hE.clear
  have HTH := Lib.hid hE.all
  have hl : (zs16 16).toArray.size = 64 := by rw [List.size_toArray]; exact zs16_len 16
  have HO := Lib.hid (all_oneCell_toArray (zs16_one 16))
  have HSZ := Lib.hid (show (Try.prog.info? 43).map (·.size) = some (zs16 16).toArray.size by rw [hl]; exact (zero_of_info zeroA).2)
  have HB := Lib.hid buildA
  have HLE := Lib.hid hl
  have HTL := Lib.hid (show (zs16 16).toArray.toList = zs16 16 from List.toList_toArray)
  unfold LfU
  clear hl hE
  generalize (zs16 16).toArray = Z at *
  go_enter Try.func19, Try.ntmps19
  go_wp2_with (first
    | (refine wpList_build rfl 43 #[] (by rfl) [] (by rfl) (.agg Z) (HB.out _) ?_)
    | (refine wpList_store_mid rfl 43 _ _ rfl g 1 Z (by rfl) (by rfl) (by rw [HLE.out]; exact HTH.out) HSZ.out HO.out ?_))
  refine bodyPost_end (v := .tuple #[]) (by simp [results, Try.results19, go_sem]) rfl ?_
  exact ⟨rfl, by rw [HTL.out]; exact HC.out, Turn.setsG _ _ (Turn.refl _ _ _)⟩
end
end Go.Proofs.Ytblfplhiamcpoaa

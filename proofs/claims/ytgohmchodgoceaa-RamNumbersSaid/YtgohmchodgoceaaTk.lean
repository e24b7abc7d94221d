/-
  nested: Mapped: A CONTRACT.
-/
import Derived.Test.YtgohmchodgoceaaTs
import Derived.Test.YtgohmchodgoceaaPh
namespace Go.Proofs.Ytgohmchodgoceaa
open Go.RowKit
set_option linter.unusedSimpArgs false
set_option linter.unusedVariables false

/-- the pages below k that are mapped -/
def Ta.mapL (T : Ta) (k : Nat) : List Nat := (List.range k).filter fun i => neB (T.fr i)
theorem mapL_succ (T : Ta) (k : Nat) : T.mapL (k + 1) = T.mapL k ++ (if neB (T.fr k) = true then [k] else []) := by
  unfold Ta.mapL
  rw [List.range_succ, List.filter_append]
  cases h : neB (T.fr k) <;> simp [h]
theorem mapL_le (T : Ta) (k : Nat) : (T.mapL k).length ≤ k := by
  have := List.length_filter_le (fun i : Nat => neB (T.fr i)) (List.range k)
  simpa [Ta.mapL] using this
theorem mapL_mem {T : Ta} {k i : Nat} : i ∈ T.mapL k ↔ i < k ∧ 0 ≤ T.fr i := by
  simp [Ta.mapL, neB]
/-- what Mapped answers -/
def Mapd (T : Ta) (w : World) (e : Ending) (w' : World) : Prop :=
  ∃ A c, e = .returned (.slice A (T.mapL T.n).length c) ∧ w'.ownsRow w.heap.size 3 1 (.slice A (T.mapL T.n).length c) (T.mapL T.n).length (nv (T.mapL T.n)) ∧ Below w.heap.size w w'
section
variable {g h r : Nat} {T : Ta}
set_option maxRecDepth 100000 in
theorem mapped_any (w : World) (hT : IsT w g h r T) :
    Calls Try.prog 21 #[.pointer (some ⟨h, 0, none⟩)] w (Mapd T w) := by
  have HT := Lib.hid hT
  have hc := hT.c2
  have hn1 := hT.good.n1
  unfold Mapd
  generalize hN : T.n = N at *
  have HN := Lib.hid hN
  clear hT hN
  go_enter Try.func21, Try.ntmps21
  go_wp2_with fail
  go_loopw [3, 11] (fun v i wr => ∃ (k : Nat) (A : Option Addr) (c n : Nat), k ≤ N ∧ n ≤ 64 ∧ i = .int .i64 k ∧ v = .slice A n c ∧ Hid (n = (T.mapL k).length) ∧ Hid (wr.ownsRow w.heap.size 3 1 (.slice A n c) n (nv (T.mapL k))) ∧ Hid (Below w.heap.size w wr)) (fun _ i _ => N - (intOf i).toNat)
  case atStart => exact ⟨0, none, 0, 0, by omega, by omega, rfl, rfl, Lib.hid rfl, World.ownsRow_nil _ _ _ _, Below.refl _ _⟩
  case round =>
    obtain ⟨k, A, c, n, hk, hn, rfl, rfl, hNL, hO, hB⟩ := hrel
    have hz := hB.out.size
    by_cases hlt : k < N
    · have hT2 := HT.out.below hB.out
      have c1 := hT2.mp k (by rw [HN.out]; exact hlt)
      have c2 := hT2.gd k (by rw [HN.out]; exact hlt)
      have c3 := hT2.fm k (by rw [HN.out]; exact hlt)
      have hs := mapL_succ T k
      have hle := mapL_le T k
      have hki : (k : Int) < (N : Int) := by omega
      generalize T.gd k = gd at *
      generalize pos (T.fr k) = fm at *
      clear hT2
      cases hb : neB (T.fr k)
      · rw [hb] at hs c1
        simp only [Bool.false_eq_true, if_false, List.append_nil] at hs
        have HS := Lib.hid hs
        clear hs hb hle
        go_wp2
        go_roundw
        case rel => exact ⟨k + 1, A, c, n, by omega, hn, by go_num, rfl, by rw [HS.out]; exact hNL, by rw [HS.out]; exact Lib.hid (hO.out.alloc _), Lib.hid (hB.out.alloc hz _)⟩
        case measure => simp [intOf]; omega
      · rw [hb] at hs c1
        simp only [if_true] at hs
        have HS := Lib.hid hs
        have HNN := Lib.hid (show n + 1 ≤ 64 by have := hNL.out; omega)
        clear hs hb hle
        have HO1 := Lib.hid ((hO.out.alloc (.cells #[.bool true, .bool gd, .int .i64 fm] 77)).alloc (.cells #[.int .i64 k] 3))
        go_wp2_with (at_builtin
                     refine wpList_app rfl (.tmp 18) (.tmp 20) _ rfl w.heap.size 3 _ 1 8 Try.underlying48 Try.info_int rfl (by omega) (.slice A n c) n (nv (T.mapL k)) rfl HO1.out (wr.heap.size + 1) 1 1 _ _ _ rfl (by simpa using heap_alloc_new (wr.alloc (.cells #[.bool true, .bool gd, .int .i64 fm] 77)) (.cells #[.int .i64 k] 3)) rfl (by simp [Value.oneCell']) (by omega) (by unfold maxLen; omega) (by omega) (by simp; omega) ?_
                     intro g2 cap2 w2 hext2
                     have HX2 := Lib.hid hext2
                     clear hext2)
        go_roundw
        case rel =>
          refine ⟨k + 1, some ⟨g2, 0, none⟩, cap2, n + 1, by omega, HNN.out, by go_num, rfl, ?_, ?_, ?_⟩
          · rw [HS.out, List.length_append]; exact Lib.hid (by rw [hNL.out]; rfl)
          · apply Lib.hid
            have h := HX2.out.own
            rw [HS.out, nv_append]
            simpa [nv] using h
          · exact Lib.hid (((hB.out.alloc hz _).alloc (by simp; omega) _).trans (HX2.out.below (by simp; omega) HO1.out))
        case measure => simp [intOf]; omega
    · obtain rfl : k = N := by omega
      clear hk hlt
      have hN' := hNL.out
      subst hN'
      go_wp2
      go_ret
      exact ⟨A, c, rfl, hO.out, hB.out⟩
end
end Go.Proofs.Ytgohmchodgoceaa

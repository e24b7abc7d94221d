/-
  innkeeperref8's New and Pages: A CONTRACT EACH.
-/
import Derived.Test.YtoejpdhcibbgdaaWr
import Derived.Test.YtoejpdhcibbgdaaRt
namespace Go.Proofs.Ytoejpdhcibbgdaa
open Go.RowKit
set_option linter.unusedSimpArgs false
set_option linter.unusedVariables false

/-- the document's memory, made anew -/
def NewW (n : Nat) (w : World) (e : Ending) (w' : World) : Prop :=
  ∃ q b t, e = .returned (.pointer (some ⟨q, 0, none⟩)) ∧ w.heap.size ≤ q ∧ w.heap.size ≤ b ∧ w.heap.size ≤ t ∧ IsW w' q b t (rm0 n) ∧ Below w.heap.size w w'
/-- its three blocks lie one behind the other: bytes and marks (in either order), and the memory itself -/
theorem newW_bt (n : Nat) (w : World) : NewW n w (.returned (.pointer (some ⟨w.heap.size + 2, 0, none⟩))) (((w.alloc (.cells (madeCells #[.int .u8 0] (n * 64)) 5)).alloc (.cells (madeCells #[.bool false] n) 4)).alloc (.cells #[.slice (some ⟨w.heap.size, 0, none⟩) (n * 64) (n * 64), .slice (some ⟨w.heap.size + 1, 0, none⟩) n n] 66)) := by
  have hb : Below w.heap.size w (w.alloc (.cells (madeCells #[.int .u8 0] (n * 64)) 5)) := (Below.refl _ _).alloc (Nat.le_refl _) _
  have s1 : (w.alloc (.cells (madeCells #[.int .u8 0] (n * 64)) 5)).heap.size = w.heap.size + 1 := by simp
  have n1 := new_u8 (n * 64) w
  have n2 := new_bool n (w.alloc (.cells (madeCells #[.int .u8 0] (n * 64)) 5))
  rw [s1] at n2
  generalize (.cells (madeCells #[.int .u8 0] (n * 64)) 5 : Obj) = o1 at *
  generalize (.cells (madeCells #[.bool false] n) 4 : Obj) = o2 at *
  have s2 : ((w.alloc o1).alloc o2).heap.size = w.heap.size + 2 := by simp
  have n3 := Blk.new ((w.alloc o1).alloc o2) 66 #[.slice (some ⟨w.heap.size, 0, none⟩) (n * 64) (n * 64), .slice (some ⟨w.heap.size + 1, 0, none⟩) n n]
  rw [s2] at n3
  have k1 : Below (w.alloc o1).heap.size (w.alloc o1) ((w.alloc o1).alloc o2) := (Below.refl _ _).alloc (Nat.le_refl _) _
  have k2 : Below ((w.alloc o1).alloc o2).heap.size ((w.alloc o1).alloc o2) (((w.alloc o1).alloc o2).alloc (.cells #[.slice (some ⟨w.heap.size, 0, none⟩) (n * 64) (n * 64), .slice (some ⟨w.heap.size + 1, 0, none⟩) n n] 66)) := (Below.refl _ _).alloc (Nat.le_refl _) _
  exact ⟨w.heap.size + 2, w.heap.size, w.heap.size + 1, rfl, by omega, by omega, by omega, ⟨n3.cell 0, n3.cell 1, n3.lt, IsC.after (IsC.after n1 k1) k2, IsC.after n2 k2, by omega, by omega, by omega⟩, hb.trans ((k1.mono (by omega)).trans (k2.mono (by omega)))⟩
theorem newW_tb (n : Nat) (w : World) : NewW n w (.returned (.pointer (some ⟨w.heap.size + 2, 0, none⟩))) (((w.alloc (.cells (madeCells #[.bool false] n) 4)).alloc (.cells (madeCells #[.int .u8 0] (n * 64)) 5)).alloc (.cells #[.slice (some ⟨w.heap.size + 1, 0, none⟩) (n * 64) (n * 64), .slice (some ⟨w.heap.size, 0, none⟩) n n] 66)) := by
  have hb : Below w.heap.size w (w.alloc (.cells (madeCells #[.bool false] n) 4)) := (Below.refl _ _).alloc (Nat.le_refl _) _
  have s1 : (w.alloc (.cells (madeCells #[.bool false] n) 4)).heap.size = w.heap.size + 1 := by simp
  have n1 := new_bool n w
  have n2 := new_u8 (n * 64) (w.alloc (.cells (madeCells #[.bool false] n) 4))
  rw [s1] at n2
  generalize (.cells (madeCells #[.int .u8 0] (n * 64)) 5 : Obj) = o2 at *
  generalize (.cells (madeCells #[.bool false] n) 4 : Obj) = o1 at *
  have s2 : ((w.alloc o1).alloc o2).heap.size = w.heap.size + 2 := by simp
  have n3 := Blk.new ((w.alloc o1).alloc o2) 66 #[.slice (some ⟨w.heap.size + 1, 0, none⟩) (n * 64) (n * 64), .slice (some ⟨w.heap.size, 0, none⟩) n n]
  rw [s2] at n3
  have k1 : Below (w.alloc o1).heap.size (w.alloc o1) ((w.alloc o1).alloc o2) := (Below.refl _ _).alloc (Nat.le_refl _) _
  have k2 : Below ((w.alloc o1).alloc o2).heap.size ((w.alloc o1).alloc o2) (((w.alloc o1).alloc o2).alloc (.cells #[.slice (some ⟨w.heap.size + 1, 0, none⟩) (n * 64) (n * 64), .slice (some ⟨w.heap.size, 0, none⟩) n n] 66)) := (Below.refl _ _).alloc (Nat.le_refl _) _
  exact ⟨w.heap.size + 2, w.heap.size + 1, w.heap.size, rfl, by omega, by omega, by omega, ⟨n3.cell 0, n3.cell 1, n3.lt, IsC.after n2 k2, IsC.after (IsC.after n1 k1) k2, by omega, by omega, by omega⟩, hb.trans ((k1.mono (by omega)).trans (k2.mono (by omega)))⟩
theorem newW_drew {n : Nat} {w : World} {e : Ending} {w' : World} (h : NewW n w e w') : NewW n w e w'.drew := by
  obtain ⟨q, b, t, e1, h1, h2, h3, h4, h5⟩ := h
  exact ⟨q, b, t, e1, h1, h2, h3, h4.below (Below.refl _ _).drew, h5.drew⟩
set_option maxRecDepth 100000 in
set_option maxHeartbeats 1000000 in
theorem newW_any (n : Nat) (h1 : 1 ≤ n) (hn : n ≤ 64) (w : World) :
    Calls Try.prog 25 #[.int .i64 n] w (NewW n w) := by
  have HB := Lib.hid (fun w => newW_bt n w)
  have HT := Lib.hid (fun w => newW_tb n w)
  have hm1 := make_u8 .i64 (n * 64) (by omega)
  have hm2 := make_bool .i64 n (by omega)
  have hNM : (n : Int) * 64 = ((n * 64 : Nat) : Int) := by omega
  have hwr : IntKind.i64.wrap ((n * 64 : Nat) : Int) = ((n * 64 : Nat) : Int) := IntWalk.i64_in _ (by omega)
  generalize n * 64 = M at *
  generalize madeCells #[Value.bool false] n = Z1 at *
  generalize madeCells #[Value.int .u8 0] M = Z2 at *
  have e1 := hm1 w.drew
  have e2 := hm1 (w.alloc (.cells Z1 4)).drew
  have e3 := hm2 w.drew
  have e4 := hm2 (w.alloc (.cells Z2 5)).drew
  clear hm1 hm2 h1 hn
  go_enter Try.func25, Try.ntmps25
  go_wp2
  go_region
  all_goals
    go_wp2
    go_ret
    first
      | exact newW_drew (HB.out w)
      | exact newW_drew (HT.out w)
section
variable {q b t : Nat} {X : Rm}
set_option maxRecDepth 100000 in
theorem rpages_any (w : World) (hW : IsW w q b t X) (hn1 : X.n ≤ 64) :
    Calls Try.prog 30 #[.pointer (some ⟨q, 0, none⟩)] w (NewL (tuL X.tu X.n) w) := by
  have HW := Lib.hid hW
  have hc := hW.c1
  unfold NewL
  generalize hN : X.n = N at *
  have HN := Lib.hid hN
  clear hW hN
  go_enter Try.func30, Try.ntmps30
  go_wp2_with fail
  go_loopw [3, 4] (fun v i wr => ∃ (k : Nat) (A : Option Addr) (c n : Nat), k ≤ N ∧ n ≤ 64 ∧ i = .int .i64 k ∧ v = .slice A n c ∧ Hid (n = (tuL X.tu k).length) ∧ Hid (wr.ownsRow w.heap.size 3 1 (.slice A n c) n (nv (tuL X.tu k))) ∧ Hid (Below w.heap.size w wr)) (fun _ i _ => N - (intOf i).toNat)
  case atStart => exact ⟨0, none, 0, 0, by omega, by omega, rfl, rfl, Lib.hid rfl, World.ownsRow_nil _ _ _ _, Below.refl _ _⟩
  case round =>
    obtain ⟨k, A, c, n, hk, hn, rfl, rfl, hNL, hO, hB⟩ := hrel
    have hz := hB.out.size
    have hW2 := HW.out.below hB.out
    have d1 := hW2.c1
    rw [HN.out] at d1
    by_cases hlt : k < N
    · have c1 := IsC.cell hW2.it k (by rw [HN.out]; exact hlt)
      have hs := tuL_succ X.tu k
      have hle := tuL_le X.tu k
      have hki : (k : Int) < (N : Int) := by omega
      clear hW2
      cases hb : X.tu k
      · rw [hb] at hs c1
        simp only [Bool.false_eq_true, if_false, List.append_nil] at hs
        have HS := Lib.hid hs
        clear hs hb hle
        go_wp2
        go_roundw
        case rel => exact ⟨k + 1, A, c, n, by omega, hn, by go_num, rfl, by rw [HS.out]; exact hNL, by rw [HS.out]; exact hO, hB⟩
        case measure => simp [intOf]; omega
      · rw [hb] at hs c1
        simp only [if_true] at hs
        have HS := Lib.hid hs
        have HNN := Lib.hid (show n + 1 ≤ 64 by have := hNL.out; omega)
        clear hs hb hle
        have HO1 := Lib.hid (hO.out.alloc (.cells #[.int .i64 k] 3))
        go_wp2_with (at_builtin
                     refine wpList_app rfl (.tmp 21) (.tmp 23) _ rfl w.heap.size 3 _ 1 8 Try.underlying43 Try.info_int rfl (by omega) (.slice A n c) n (nv (tuL X.tu k)) rfl HO1.out wr.heap.size 1 1 _ _ _ rfl (heap_alloc_new wr (.cells #[.int .i64 k] 3)) rfl (by simp [Value.oneCell']) (by omega) (by unfold maxLen; omega) (by omega) (by simp; omega) ?_
                     intro g2 cap2 w2 hext2
                     have HX2 := Lib.hid hext2
                     clear hext2)
        go_roundw
        case rel =>
          refine ⟨k + 1, some ⟨g2, 0, none⟩, cap2, n + 1, by omega, HNN.out, by go_num, rfl, ?_, ?_, ?_⟩
          · rw [HS.out, List.length_append]; exact Lib.hid (by rw [hNL.out]; rfl)
          · apply Lib.hid
            have h := HX2.out.own
            rw [HS.out, nv_append]
            simpa [nv] using h
          · exact Lib.hid ((hB.out.alloc hz _).trans (HX2.out.below (by simp; omega) HO1.out))
        case measure => simp [intOf]; omega
    · obtain rfl : k = N := by omega
      clear hk hlt
      have hN' := hNL.out
      subst hN'
      go_wp2
      go_ret
      exact ⟨A, c, rfl, hO.out, hB.out⟩
end
end Go.Proofs.Ytoejpdhcibbgdaa

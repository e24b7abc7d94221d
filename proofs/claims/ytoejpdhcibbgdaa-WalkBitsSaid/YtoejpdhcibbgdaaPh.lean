/-
  Held and Free, the program's and the document's: A CONTRACT EACH.
-/
import Derived.Test.YtoejpdhcibbgdaaPs
import Derived.Test.YtoejpdhcibbgdaaAppR
namespace Go.Proofs.Ytoejpdhcibbgdaa
open Go.RowKit
set_option linter.unusedSimpArgs false
set_option linter.unusedVariables false

theorem Try.info_int : (Try.prog.info? 3).map (fun i => (i.zero, i.size, i.bytes)) = some (some (.int .i64 0), 1, 8) := by kernel_rfl
/-- the frames below k that o holds -/
def Po.heldL (S : Po) (o : Int) (k : Nat) : List Nat := (List.range k).filter fun f => S.isB o f
def nv (l : List Nat) : List Value := l.map fun (k : Nat) => Value.int .i64 (k : Int)
theorem nv_len (l : List Nat) : (nv l).length = l.length := by simp [nv]
theorem nv_append (l m : List Nat) : nv (l ++ m) = nv l ++ nv m := by simp [nv]
theorem heldL_succ (S : Po) (o : Int) (k : Nat) : S.heldL o (k + 1) = S.heldL o k ++ (if S.isB o k = true then [k] else []) := by
  unfold Po.heldL
  rw [List.range_succ, List.filter_append]
  cases h : S.isB o (k : Int) <;> simp [h]
theorem heldL_le (S : Po) (o : Int) (k : Nat) : (S.heldL o k).length ≤ k := by
  have := List.length_filter_le (fun f : Nat => S.isB o f) (List.range k)
  simpa [Po.heldL] using this
theorem heldL_mem {S : Po} {o : Int} {k f : Nat} : f ∈ S.heldL o k ↔ f < k ∧ S.isB o f = true := by
  simp [Po.heldL]
theorem isB_nat {S : Po} {o : Int} {f : Nat} (h : f < 256) : S.isB o f = true ↔ S.own f = o ∧ 0 ≤ o := by
  simp only [Po.isB, hB_nat h, Bool.and_eq_true, neB, decide_eq_true_eq, Int.toNat_natCast, beq_iff_eq]
  constructor
  · rintro ⟨h1, h2⟩; exact ⟨h2, by omega⟩
  · rintro ⟨h1, h2⟩; exact ⟨by omega, h1⟩
/-- what Held answers -/
def Held (S : Po) (o : Int) (w : World) (e : Ending) (w' : World) : Prop :=
  ∃ A c, e = .returned (.slice A (S.heldL o 256).length c) ∧ w'.ownsRow w.heap.size 3 1 (.slice A (S.heldL o 256).length c) (S.heldL o 256).length (nv (S.heldL o 256)) ∧ Below w.heap.size w w'

section
variable {g : Nat} {S : Po}
set_option maxRecDepth 100000 in
theorem held_any (o : Int) (w : World) (hP : IsP w g S) :
    Calls Try.prog 62 #[.pointer (some ⟨g, 0, none⟩), .int .i64 o] w (Held S o w) := by
  have HP := Lib.hid hP
  clear hP
  go_enter Try.func62, Try.ntmps62
  go_wp2_with fail
  go_loopw [5, 7] (fun v i wr => ∃ (k : Nat) (A : Option Addr) (c n : Nat), k ≤ 256 ∧ n ≤ 256 ∧ i = .int .i64 k ∧ v = .slice A n c ∧ Hid (n = (S.heldL o k).length) ∧ Hid (wr.ownsRow w.heap.size 3 1 (.slice A n c) n (nv (S.heldL o k))) ∧ Hid (Below w.heap.size w wr)) (fun _ i _ => 256 - (intOf i).toNat)
  case atStart => exact ⟨0, none, 0, 0, by omega, by omega, rfl, rfl, Lib.hid rfl, World.ownsRow_nil _ _ _ _, Below.refl _ _⟩
  case round =>
    obtain ⟨k, A, c, n, hk, hn, rfl, rfl, hN, hO, hB⟩ := hrel
    have hz := hB.out.size
    by_cases hlt : k < 256
    · have hh := holds_any o k wr (HP.out.keep (hB.out.block g HP.out.z))
      have hs := heldL_succ S o k
      have hle := heldL_le S o k
      cases hb : S.isB o k
      · rw [hb] at hh hs
        simp only [Bool.false_eq_true, if_false, List.append_nil] at hs
        have HS := Lib.hid hs
        have HH := Lib.hid hh
        clear hh hs hb hle
        go_wp2_with (go_at_call 64; refine HH.out.mono ?_; rintro e w' ⟨rfl, rfl⟩)
        go_roundw
        case rel => exact ⟨k + 1, A, c, n, by omega, hn, by go_num, rfl, by rw [HS.out]; exact hN, by rw [HS.out]; exact hO, hB⟩
        case measure => simp [intOf]; omega
      · rw [hb] at hh hs
        simp only [if_true] at hs
        have HS := Lib.hid hs
        have HH := Lib.hid hh
        have HN := Lib.hid (show n + 1 ≤ 256 by have := hN.out; omega)
        have HO1 := Lib.hid ((hO.out.alloc (.cells #[.int .i64 k] 3)))
        clear hh hs hb hle
        go_wp2_with (first
          | (go_at_call 64; refine HH.out.mono ?_; rintro e w' ⟨rfl, rfl⟩)
          | (at_builtin
             refine wpList_app rfl (.tmp 14) (.tmp 16) _ rfl w.heap.size 3 _ 1 8 Try.underlying43 Try.info_int rfl (by omega) (.slice A n c) n (nv (S.heldL o k)) rfl HO1.out wr.heap.size 1 1 _ _ _ rfl (by simpa using heap_alloc_new wr (.cells #[.int .i64 k] 3)) rfl (by simp [Value.oneCell']) (by omega) (by unfold maxLen; omega) (by omega) (by simp; omega) ?_
             intro g2 cap2 w2 hext2
             have HX2 := Lib.hid hext2
             clear hext2))
        go_roundw
        case rel =>
          refine ⟨k + 1, some ⟨g2, 0, none⟩, cap2, n + 1, by omega, HN.out, by go_num, rfl, ?_, ?_, ?_⟩
          · rw [HS.out, List.length_append]; exact Lib.hid (by rw [hN.out]; rfl)
          · apply Lib.hid
            have h := HX2.out.own
            rw [HS.out, nv_append]
            simpa [nv] using h
          · exact Lib.hid ((hB.out.alloc hz _).trans (HX2.out.below (by simp; omega) HO1.out))
        case measure => simp [intOf]; omega
    · obtain rfl : k = 256 := by omega
      clear hk hlt
      have hN' := hN.out
      subst hN'
      go_wp2
      go_ret
      exact ⟨A, c, rfl, hO.out, hB.out⟩
/-- how many frames below k are free -/
def Po.freeN (S : Po) (k : Nat) : Nat := ((List.range k).filter fun f => decide (16 ≤ f) && !neB (S.own f)).length
theorem freeN_succ (S : Po) (k : Nat) : S.freeN (k + 1) = S.freeN k + (if 16 ≤ k ∧ neB (S.own k) = false then 1 else 0) := by
  unfold Po.freeN
  rw [List.range_succ, List.filter_append, List.length_append]
  by_cases h : 16 ≤ k <;> cases h2 : neB (S.own k) <;> simp [h, h2]
theorem freeN_16 (S : Po) : S.freeN 16 = 0 := by
  unfold Po.freeN
  rw [List.length_eq_zero_iff, List.filter_eq_nil_iff]
  intro a ha
  have := List.mem_range.1 ha
  simp; omega
theorem freeN_le (S : Po) (k : Nat) : S.freeN k ≤ k := by
  have := List.length_filter_le (fun f => decide (16 ≤ f) && !neB (S.own f)) (List.range k)
  simpa [Po.freeN] using this
end
end Go.Proofs.Ytoejpdhcibbgdaa

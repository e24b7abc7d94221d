/-
  innkeeperlaw2.known returns true; innkeeperkeep's and innkeeperbook's small functions: A CONTRACT EACH.
-/
import Derived.Test.YtmgjojgjonighaaDoorGc5
import Derived.Test.YtmgjojgjonighaaDoorGc9
import Derived.Laws.IdiomStrings
import Derived.Laws.BytesString
namespace Go.Proofs.YtmgjojgjonighaaDoor
open Go.RowKit
set_option linter.unusedSimpArgs false
set_option linter.unusedVariables false

theorem conv_rd (w : World) (B : Nat) (A : Option Addr) (c : Nat) (l : List UInt8) (h : Rd w B A (bv l)) :
    (convert 27 9 (.slice A l.length c)).run Tryd.prog w = .ok (.string ⟨l.toArray⟩) w := by
  rcases List.eq_nil_or_concat l with rfl | ⟨l', b, rfl⟩
  · rcases A with _ | a
    · rw [run_convert_bytes_string w 27 9 5 none _ c Tryd.underlying27 Tryd.underlying5 Tryd.underlying9]
      rfl
    · exact run_convert_bytes_back w _ _ 5 a c [] Tryd.underlying27 Tryd.underlying5 Tryd.underlying9 (fun j hj => absurd hj (by simp))
  · obtain ⟨g, off, rfl, hg, hc⟩ := h (by simp [bv])
    refine run_convert_bytes_back w _ _ 5 _ c _ Tryd.underlying27 Tryd.underlying5 Tryd.underlying9 fun j hj => ?_
    have := hc j _ (by rw [bv, List.getElem?_map, List.getElem?_eq_getElem hj]; rfl)
    have hadd : (⟨g, off, none⟩ : Addr).add j = ⟨g, off + j, none⟩ := by unfold Addr.add; split <;> simp_all
    rw [hadd]; exact this

def Tab (B : Nat) (w : World) : Prop := Lib.TabBelow Tryd.prog B w "internal/strconv.uint64pow10" .u64 Lib.pow10Tab
theorem Tab.on {B : Nat} {w w' : World} (h : Tab B w) (hb : Below B w w') : Tab B w' := Lib.TabBelow.on h hb
theorem Tab.up {B B' : Nat} {w : World} (h : Tab B w) (hB : B ≤ B') : Tab B' w := fun w' hb => h w' (hb.mono hB)

set_option maxRecDepth 100000 in
set_option maxHeartbeats 1000000 in
theorem known_any (w : World) (ht : Tab w.heap.size w) :
    Calls Tryd.prog 11 #[] w fun e w' => e = .returned (.bool true) ∧ Below w.heap.size w w' := by
  have HT := Lib.hid ht
  clear ht
  have h1 := encode_ok 2 258 (by decide) (by omega) (by omega) w
  have e1 : ecV 2 258 = [2, 2, 1, 0, 0] := by decide
  rw [e1] at h1
  have H1 := Lib.hid h1
  have e2 : txV 33 254 = [106, 122, 32, 50, 53, 52] := by decide +kernel
  have h2 := fun (W : World) (hW : Tab W.heap.size W) => text_any 33 254 (by omega) (by omega) W hW
  rw [e2] at h2
  have H2 := Lib.hid h2
  clear h1 e1 h2 e2
  go_enter Tryd.func11, Tryd.ntmps11
  go_wp2_with (first
    | (go_at_call 25; refine H1.out.mono ?_; rintro e w1 ⟨A1, c1, rfl, ho1, hb1⟩; have HO1 := Lib.hid ho1; have HB1 := Lib.hid hb1; have hz1 := hb1.size; clear ho1 hb1)
    | (go_at_call 18; refine (decode_zero w1.heap.size 0 1 1 9 (by omega) (by omega) (by decide) (by omega) _ (by simp) (by rw [World.cell?_alloc_new]; rfl)).mono ?_
       rintro e w2 ⟨rfl, hb2⟩
       have hb3 : Below w1.heap.size w1 (w2.alloc (.cells #[.int .i64 0, .int .u32 0] 26)) := (((Below.refl _ _).alloc (Nat.le_refl _) _).trans (hb2.mono (by simp))).alloc (by have := hb2.size; simp at this; omega) _
       have hcv : (convert 27 9 (.slice A1 5 c1)).run Tryd.prog (w2.alloc (.cells #[.int .i64 0, .int .u32 0] 26)) = .ok (.string ⟨#[2, 2, 1, 0, 0]⟩) (w2.alloc (.cells #[.int .i64 0, .int .u32 0] 26)) := conv_rd (w2.alloc (.cells #[.int .i64 0, .int .u32 0] 26)) _ A1 c1 [2, 2, 1, 0, 0] ((Rd.of_own HO1.out).below hb3)
       have HB3 := Lib.hid hb3
       clear hb2 hb3)
    | (go_at_call 24; refine (H2.out _ (((HT.out.on HB1.out).on (HB3.out.mono hz1)).up (by have := HB3.out.size; omega))).mono ?_; rintro e w3 ⟨rfl, hb4⟩))
  go_ret
  exact ⟨rfl, (HB1.out.trans (HB3.out.mono hz1)).trans (hb4.mono (by have := HB3.out.size; omega))⟩

theorem cut_any (A : Option Addr) (len c n : Nat) (hl : len ≤ c) (hc : c ≤ maxLen) (hA : A = none → c = 0) (w : World) :
    Calls Tryd.prog 19 #[.slice A len c, .int .i64 n] w fun e w' => e = .returned (.slice A (min len n) c) ∧ w = w' := by
  unfold maxLen at hc
  by_cases h : n < len
  · have e : min len n = n := by omega
    rw [e]
    rcases A with _ | a
    · have := hA rfl; omega
    · clear hA e
      go_enter Tryd.func19, Tryd.ntmps19
      go_wp2
      go_ret
      exact ⟨rfl, rfl⟩
  · have e : min len n = len := by omega
    rw [e]
    clear hA e
    go_enter Tryd.func19, Tryd.ntmps19
    go_wp2
    go_ret
    exact ⟨rfl, rfl⟩
theorem slice_hi (A : Option Addr) (n c k : Nat) (hk : k ≤ c) (hc : c ≤ maxLen) (hA : A = none → c = 0) (w : World) :
    (Instr.sliceAt 27 (.slice A n c) none (some (.int .i64 k)) none).run Tryd.prog w = .ok (.slice A k c) w := by
  unfold maxLen at hc
  rcases A with _ | a
  · obtain rfl := hA rfl
    obtain rfl : k = 0 := by omega
    go_simp
  · go_simp
theorem slice_lo (a : Addr) (n c k : Nat) (hk : k < n) (hn : n ≤ c) (hc : c ≤ maxLen) (w : World) :
    (Instr.sliceAt 27 (.slice (some a) n c) (some (.int .i64 k)) none none).run Tryd.prog w = .ok (.slice (some (a.add k)) (n - k) (c - k)) w := by
  unfold maxLen at hc
  have h : ¬ c = k := by omega
  go_simp
  intro h2
  omega
/-- b[a:k] -/
theorem slice_any (w : World) (B : Nat) (A : Option Addr) (c a k : Nat) (l : List UInt8) (ha : a ≤ k) (hk : k ≤ l.length) (hl : l.length ≤ c) (hc : c ≤ maxLen) (hA : A = none → c = 0) (hr : Rd w B A (bv l)) :
    ∃ Ax, (∀ W, (Instr.sliceAt 27 (.slice A l.length c) (some (.int .i64 a)) (some (.int .i64 k)) none).run Tryd.prog W = .ok (.slice Ax (k - a) (c - a)) W) ∧ Rd w B Ax (bv ((l.take k).drop a)) := by
  unfold maxLen at hc
  have hkc : k ≤ c := by omega
  rcases A with _ | ad
  · obtain rfl := hA rfl
    obtain rfl : k = 0 := by omega
    obtain rfl : a = 0 := by omega
    exact ⟨none, fun W => by go_simp, by simp [bv, Rd]⟩
  · by_cases hca : c = a
    · obtain rfl : k = a := by omega
      refine ⟨some ad, fun W => ?_, ?_⟩
      · go_simp
      · rw [List.drop_take]; simp [bv, Rd]
    · refine ⟨some (ad.add a), fun W => ?_, ?_⟩
      · go_simp
      · intro hn
        simp [bv] at hn
        obtain ⟨g, off, e, hg, hcell⟩ := hr (by simp [bv]; omega)
        simp only [Option.some.injEq] at e
        subst e
        refine ⟨g, off + a, ?_, hg, fun j u hu => ?_⟩
        · congr 1; unfold Addr.add; split <;> simp_all
        · have h1 : ((bv l).take k).drop a = bv ((l.take k).drop a) := by simp [bv, List.map_take, List.map_drop]
          rw [← h1, List.getElem?_drop, List.getElem?_take] at hu
          split at hu
          · have := hcell _ u hu
            rw [Nat.add_assoc]; exact this
          · cases hu
end Go.Proofs.YtmgjojgjonighaaDoor

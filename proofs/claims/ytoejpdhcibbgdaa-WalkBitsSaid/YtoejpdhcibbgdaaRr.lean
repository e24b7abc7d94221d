/-
  ROWS OF CELLS AS FUNCTIONS; ram: read, Page, All: A CONTRACT EACH.
-/
import Derived.Test.YtoejpdhcibbgdaaRp
import Derived.Laws.CopyOwn
import Derived.Deep.OwnRows
namespace Go.Proofs.Ytoejpdhcibbgdaa
open Go.RowKit
set_option linter.unusedSimpArgs false
set_option linter.unusedVariables false

/-- block g holds n cells: V 0, V 1 .. -/
def IsC (w : World) (g : Nat) (t : TypeId) (n : Nat) (V : Nat → Value) : Prop := w.heap[g]? = some (.cells ((List.range n).map V).toArray t (0, 0))
def IsB (w : World) (g n : Nat) (F : Nat → Int) : Prop := IsC w g 5 n fun j => .int .u8 (F j)
def IsU (w : World) (g n : Nat) (F : Nat → Bool) : Prop := IsC w g 4 n fun j => .bool (F j)
section
variable {w w' : World} {g n : Nat} {t : TypeId} {V : Nat → Value} {F : Nat → Int} {G : Nat → Bool}
theorem range_get {α : Type} (V : Nat → α) (n j : Nat) : ((List.range n).map V)[j]? = if j < n then some (V j) else none := by
  rw [List.getElem?_map]
  by_cases h : j < n
  · rw [List.getElem?_range h, if_pos h]; rfl
  · rw [List.getElem?_eq_none (by simpa using h), if_neg h]; rfl
theorem IsC.blk (h : IsC w g t n V) : Blk w g t ((List.range n).map V).toArray := h
theorem IsC.cell (h : IsC w g t n V) (j : Nat) (hj : j < n) : w.cell? ⟨g, j, none⟩ = some (V j) := by
  rw [h.blk.cell, List.getElem?_toArray, range_get, if_pos hj]
theorem IsC.frozen (h : IsC w g t n V) (i : Nat) : w.frozen? ⟨g, i, none⟩ = false := h.blk.frozen i
theorem IsC.lt (h : IsC w g t n V) : g < w.heap.size := h.blk.lt
theorem IsC.keep (h : IsC w g t n V) (e : w'.heap[g]? = w.heap[g]?) : IsC w' g t n V := e.trans h
theorem IsC.below {B : Nat} (h : IsC w g t n V) (hb : Below B w w') (hB : g < B) : IsC w' g t n V := h.keep (hb.block g hB)
theorem IsC.after (h : IsC w g t n V) (hb : Below w.heap.size w w') : IsC w' g t n V := h.keep (hb.block g h.lt)
theorem IsC.alt {p : Bl} (h : IsC w g t n V) (a : Alt p w w') (h1 : g ≠ p.g) (h2 : g ≠ p.r) (h3 : g ≠ p.u) : IsC w' g t n V := h.keep (a.block g h.lt h1 h2 h3)
theorem IsC.far (h : IsC w g t n V) {p : Addr} (hp : g ≠ p.block) (u : Value) : IsC (w.setCell p u) g t n V := h.blk.far hp u
theorem IsC.cast {V' : Nat → Value} (h : IsC w g t n V) (e : ∀ j, j < n → V' j = V j) : IsC w g t n V' := by
  have : (List.range n).map V' = (List.range n).map V := List.map_congr_left fun j hj => e j (List.mem_range.1 hj)
  unfold IsC; rw [this]; exact h
theorem IsC.set (h : IsC w g t n V) (k : Nat) (v : Value) : IsC (w.setCell ⟨g, k, none⟩ v) g t n (upd V k v) := by
  have h1 := h.blk.put k v
  have e : ((List.range n).map V).toArray.setIfInBounds k v = ((List.range n).map (upd V k v)).toArray := by
    rw [List.setIfInBounds_toArray]
    congr 1
    apply List.ext_getElem?
    intro j
    rw [List.getElem?_set, range_get, range_get]
    by_cases e : k = j
    · subst e; simp
    · rw [if_neg e, upd_other _ _ _ _ (Ne.symm e)]
  unfold Blk at h1
  rw [e] at h1
  exact h1
theorem IsB.set (h : IsB w g n F) (k : Nat) (x : Int) : IsB (w.setCell ⟨g, k, none⟩ (.int .u8 x)) g n (upd F k x) :=
  (IsC.set h k _).cast fun j _ => by unfold upd; split <;> rfl
theorem IsU.set (h : IsU w g n G) (k : Nat) (x : Bool) : IsU (w.setCell ⟨g, k, none⟩ (.bool x)) g n (upd G k x) :=
  (IsC.set h k _).cast fun j _ => by unfold upd; split <;> rfl
theorem IsB.cast {F' : Nat → Int} (h : IsB w g n F) (e : ∀ j, j < n → F' j = F j) : IsB w g n F' := IsC.cast h fun j hj => by rw [e j hj]
theorem IsU.cast {G' : Nat → Bool} (h : IsU w g n G) (e : ∀ j, j < n → G' j = G j) : IsU w g n G' := IsC.cast h fun j hj => by rw [e j hj]
theorem ub_range (F : Nat → Int) (n : Nat) : ub ((List.range n).map F) = (List.range n).map fun j => Value.int .u8 (F j) := by simp [ub]
theorem IsB.rdM {p : Bl} (h : IsB w g n F) (h1 : g ≠ p.g) (h2 : g ≠ p.r) (h3 : g ≠ p.u) : RdM w p (some ⟨g, 0, none⟩) (ub ((List.range n).map F)) := fun _ =>
  ⟨g, 0, rfl, h1, h2, h3, IsC.lt h, fun j u hu => by
    rw [ub_range, range_get] at hu
    split at hu
    · rename_i hj
      cases hu
      rw [Nat.zero_add]
      exact IsC.cell h j hj
    · cases hu⟩
theorem IsB.rd (h : IsB w g n F) : Rd w w.heap.size (some ⟨g, 0, none⟩) (ub ((List.range n).map F)) := fun _ =>
  ⟨g, 0, rfl, IsC.lt h, fun j u hu => by
    rw [ub_range, range_get] at hu
    split at hu
    · rename_i hj
      cases hu
      rw [Nat.zero_add]
      exact IsC.cell h j hj
    · cases hu⟩
end
theorem made_one (z : Value) (n : Nat) (hz : z.cells = #[z]) : madeCells #[z] n = ((List.range n).map fun _ => z).toArray := by
  apply Array.ext
  · rw [size_madeCells]; simp
  · intro i h1 h2; simp [madeCells, Nat.mod_one]
theorem Try.info_u8' : (Try.prog.info? 5).map (fun i => (i.zero, i.size, i.bytes)) = some (some (.int .u8 0), 1, 1) := by kernel_rfl
theorem Try.info_bool' : (Try.prog.info? 4).map (fun i => (i.zero, i.size, i.bytes)) = some (some (.bool false), 1, 1) := by kernel_rfl
theorem make_u8 (k : IntKind) (n : Nat) (hn : n ≤ 100000) (W : World) :
    (Instr.makeSlice 29 (.int k (n : Int)) (.int k (n : Int))).run Try.prog W = .ok (.slice (some ⟨W.heap.size, 0, none⟩) n n) (W.alloc (.cells (madeCells #[.int .u8 0] n) 5)) := by
  obtain ⟨i, hi, hzz⟩ := Option.map_eq_some_iff.1 Try.info_u8'
  simp only [Prod.mk.injEq] at hzz
  obtain ⟨hz, hs, hb⟩ := hzz
  have hr := run_make (P := Try.prog) W 29 5 i (.int .u8 0) Try.underlying29 hi hz k k n n (by omega) (Int.le_refl _) (by rw [hb]; omega) (by omega)
  simp only [Int.toNat_natCast, hs, Nat.mul_one] at hr
  exact hr
theorem make_bool (k : IntKind) (n : Nat) (hn : n ≤ 100000) (W : World) :
    (Instr.makeSlice 64 (.int k (n : Int)) (.int k (n : Int))).run Try.prog W = .ok (.slice (some ⟨W.heap.size, 0, none⟩) n n) (W.alloc (.cells (madeCells #[.bool false] n) 4)) := by
  obtain ⟨i, hi, hzz⟩ := Option.map_eq_some_iff.1 Try.info_bool'
  simp only [Prod.mk.injEq] at hzz
  obtain ⟨hz, hs, hb⟩ := hzz
  have hr := run_make (P := Try.prog) W 64 4 i (.bool false) Try.underlying64 hi hz k k n n (by omega) (Int.le_refl _) (by rw [hb]; omega) (by omega)
  simp only [Int.toNat_natCast, hs, Nat.mul_one] at hr
  exact hr
theorem new_u8 (n : Nat) (W : World) : IsB (W.alloc (.cells (madeCells #[.int .u8 0] n) 5)) W.heap.size n fun _ => 0 := by
  unfold IsB IsC; rw [made_one _ _ rfl]; exact heap_alloc_new W _
theorem new_bool (n : Nat) (W : World) : IsU (W.alloc (.cells (madeCells #[.bool false] n) 4)) W.heap.size n fun _ => false := by
  unfold IsU IsC; rw [made_one _ _ rfl]; exact heap_alloc_new W _
/-- bytes in new memory -/
def NewB (F : Nat → Int) (n : Nat) (v : Option Addr → Value) (w : World) (e : Ending) (w' : World) : Prop :=
  ∃ g, e = .returned (v (some ⟨g, 0, none⟩)) ∧ w.heap.size ≤ g ∧ IsB w' g n F ∧ Below w.heap.size w w'
section
variable {p : Bl} {X : Rm}
set_option maxRecDepth 100000 in
theorem read_any (a n : Nat) (w : World) (hM : IsM w p X) (ha : a + n ≤ X.n * 64) :
    Calls Try.prog 34 #[.pointer (some ⟨p.m, 0, none⟩), .int .u32 a, .int .u32 n] w (NewB (fun j => X.b (a + j)) n (fun A => .slice A n n) w) := by
  have hn := hM.n1
  have HM := Lib.hid hM
  have ha2 : a + n ≤ 4096 := by omega
  have HX := Lib.hid ha
  have hmk := make_u8 .u32 n (by omega)
  have HNB := Lib.hid (new_u8 n w)
  generalize madeCells #[Value.int .u8 0] n = Z at *
  clear hM ha hn
  have i0 : (0 : Int) ≤ (n : Int) := by omega
  have i3 : (n : Int) ≤ 4096 := by omega
  unfold NewB
  go_enter Try.func34, Try.ntmps34
  go_wp2_with fail
  go_loopw [13] (fun i wr => ∃ k : Nat, k ≤ n ∧ i = .int .i64 k ∧ Hid (IsB wr w.heap.size n fun j => if j < k then X.b (a + j) else 0) ∧ Hid (Below w.heap.size w wr)) (fun i _ => n - (intOf i).toNat)
  case atStart => exact ⟨0, by omega, rfl, HNB, Lib.hid ((Below.refl _ _).alloc (Nat.le_refl _) _)⟩
  case round =>
    obtain ⟨k, hk, rfl, hB, hW⟩ := hrel
    have hz := hW.out.size
    by_cases hlt : k < n
    · have hg := get_any (a + k) wr (HM.out.below hW.out) (by have := HX.out; omega)
      rw [Int.natCast_add] at hg
      unfold Told at hg
      have HG := Lib.hid hg
      have hc := fun m => ((IsC.after hB.out (Below_drewN (Below.refl _ _) m)).cell k hlt : (wr.drewN m).cell? _ = _)
      have hf := fun m => ((IsC.after hB.out (Below_drewN (Below.refl _ _) m)).frozen k : (wr.drewN m).frozen? _ = _)
      have i1 : (k : Int) < (n : Int) := by omega
      have i2 : (a : Int) + (k : Int) < 4096 := by omega
      have HS := Lib.hid (fun m => (IsB.set (IsC.after hB.out (Below_drewN (Below.refl _ _) m)) k (X.b (a + k))).cast (F' := fun j => if j < k + 1 then X.b (a + j) else 0) fun j hj => by
        by_cases e : j = k
        · subst e; rw [upd_same, if_pos (by omega)]
        · rw [upd_other _ _ _ _ e]
          by_cases h : j < k
          · rw [if_pos h, if_pos (by omega)]
          · rw [if_neg h, if_neg (by omega)])
      clear hg
      generalize X.b (a + k) = x at *
      go_wp2_with (go_at_call 38; refine HG.out.mono ?_; rintro e w1 ⟨rfl, m, rfl⟩; have d1 := hc m; have d2 := hf m; clear hc hf)
      go_roundw
      case rel => exact ⟨k + 1, by omega, by go_num, Lib.hid (HS.out m), Lib.hid ((Below_drewN hW.out m).setCell (Nat.le_refl _) _)⟩
      case measure => simp [intOf]; omega
    · obtain rfl : k = n := by omega
      clear hk hlt
      go_wp2
      go_ret
      exact ⟨w.heap.size, rfl, Nat.le_refl _, hB.out.cast fun j hj => by rw [if_pos hj], hW.out⟩
set_option maxRecDepth 100000 in
theorem allM_any (w : World) (hM : IsM w p X) :
    Calls Try.prog 17 #[.pointer (some ⟨p.m, 0, none⟩)] w (NewB X.b (X.n * 64) (fun A => .slice A (X.n * 64) (X.n * 64)) w) := by
  have hh := size_any w hM
  have HH := Lib.hid hh
  have hr := read_any 0 (X.n * 64) w hM (by omega)
  have e : (fun j => X.b (0 + j)) = X.b := by funext j; rw [Nat.zero_add]
  rw [e] at hr
  have HR := Lib.hid hr
  clear hh hr hM e
  generalize X.n * 64 = N at *
  go_enter Try.func17, Try.ntmps17
  go_wp2_with (first
    | (go_at_call 35; refine HH.out.mono ?_; rintro e w' ⟨rfl, rfl⟩)
    | (go_at_call 34; refine HR.out.mono ?_; rintro e w' ⟨g, rfl, h1, h2, h3⟩; have H2 := Lib.hid h2; have H3 := Lib.hid h3; clear h2 h3))
  go_ret
  exact ⟨g, rfl, h1, H2.out, H3.out⟩
/-- the word at a -/
def Rm.wd (X : Rm) (a : Nat) : Int := X.b a + X.b (a + 1) * 256 + X.b (a + 2) * 65536 + X.b (a + 3) * 16777216
def Rm.wdV (X : Rm) (a : Nat) : Int := if a + 4 ≤ X.n * 64 then X.wd a else 0
def wdK (X : Rm) (a : Nat) : Nat → Int
  | 0 => 0
  | k + 1 => wdK X a k + X.b (a + k) * 256 ^ k
theorem wdK_bd (X : Rm) (a : Nat) (h : ∀ j, j < 4 → 0 ≤ X.b (a + j) ∧ X.b (a + j) < 256) : ∀ k, k ≤ 4 → 0 ≤ wdK X a k ∧ wdK X a k < 256 ^ k
  | 0, _ => by simp [wdK]
  | k + 1, hk => by
    have ih := wdK_bd X a h k (by omega)
    have hb := h k (by omega)
    have e : wdK X a (k + 1) = wdK X a k + X.b (a + k) * 256 ^ k := rfl
    rw [e]
    rcases (show k = 0 ∨ k = 1 ∨ k = 2 ∨ k = 3 by omega) with rfl | rfl | rfl | rfl
    all_goals
      simp only [Int.reducePow, Nat.reduceAdd] at ih ⊢
      omega
theorem or_hi (V x : Int) (i : Nat) (hV : 0 ≤ V ∧ V < 2 ^ i) (hV3 : V < 4294967296) (hx : 0 ≤ x) (h : x * 2 ^ i < 4294967296) : bits .or .u32 V (x * 2 ^ i) = V + x * 2 ^ i := by
  obtain ⟨y, rfl⟩ := Int.eq_ofNat_of_zero_le hx
  obtain ⟨v, rfl⟩ := Int.eq_ofNat_of_zero_le hV.1
  have e : ((y : Int) * 2 ^ i) = ((y * 2 ^ i : Nat) : Int) := by simp
  have e2 : ((2 : Int) ^ i) = ((2 ^ i : Nat) : Int) := by simp
  rw [e] at h ⊢
  have h1 : v < 2 ^ i := by have := hV.2; rw [e2] at this; omega
  rw [u32_or_nat _ _ (by omega) (by omega)]
  have h4 := Nat.two_pow_add_eq_or_of_lt h1 y
  have h5 : v ||| y * 2 ^ i = y * 2 ^ i + v := by rw [Nat.or_comm, Nat.mul_comm, ← h4]
  rw [h5]; omega
set_option maxRecDepth 100000 in
theorem wordM_any (a : Nat) (ha : a < 4294967296) (w : World) (hM : IsM w p X) :
    Calls Try.prog 19 #[.pointer (some ⟨p.m, 0, none⟩), .int .u32 a] w (Told (.tuple #[.int .u32 (X.wdV a), .bool (decide (a + 4 ≤ X.n * 64))]) w) := by
  have hh := has_any a 4 ha (by omega) (by omega) w hM
  have HH := Lib.hid hh
  unfold Told Rm.wdV
  by_cases hlt : a + 4 ≤ X.n * 64
  · rw [decide_eq_true hlt] at hh ⊢
    rw [if_pos hlt]
    have HH := Lib.hid hh
    have hn := hM.n1
    have HM := Lib.hid hM
    have HX := Lib.hid hlt
    have ha2 : a + 4 ≤ 4096 := by omega
    clear hh hlt hM ha hn
    go_enter Try.func19, Try.ntmps19
    go_wp2_with (go_at_call 37; refine HH.out.mono ?_; rintro e w' ⟨rfl, rfl⟩)
    go_loopw [6, 12] (fun v i wr => ∃ k : Nat, k ≤ 4 ∧ i = .int .u32 k ∧ v = .int .u32 (wdK X a k) ∧ Hid (∃ m, wr = w.drewN m)) (fun _ i _ => 4 - (intOf i).toNat)
    case atStart => exact ⟨0, by omega, rfl, rfl, Lib.hid ⟨0, rfl⟩⟩
    case round =>
      obtain ⟨k, hk, rfl, rfl, hW⟩ := hrel
      by_cases hlt : k < 4
      · have hMr : IsM wr p X := by obtain ⟨m, rfl⟩ := hW.out; exact HM.out.drewN m
        have hbd := fun j (hj : j < 4) => hMr.bd (a + j) (by have := HX.out; omega)
        have hg := get_any (a + k) wr hMr (by have := HX.out; omega)
        rw [Int.natCast_add] at hg
        unfold Told at hg
        have HG := Lib.hid hg
        have hv : 0 ≤ wdK X a k ∧ wdK X a k < 256 ^ k := wdK_bd X a hbd k (by omega)
        have hx := hMr.bd (a + k) (by have := HX.out; omega)
        have hs : wdK X a (k + 1) = wdK X a k + X.b (a + k) * 256 ^ k := rfl
        have HS := Lib.hid hs
        generalize wdK X a k = V at *
        generalize X.b (a + k) = x at *
        clear hg hbd hs
        rcases (show k = 0 ∨ k = 1 ∨ k = 2 ∨ k = 3 by omega) with rfl | rfl | rfl | rfl
        · have HE := Lib.hid (or_hi V x 0 (by simpa using hv) (by simp at hv; omega) (by omega) (by simp; omega))
          go_wp2_with (go_at_call 38; refine HG.out.mono ?_; rintro e w1 ⟨rfl, m, rfl⟩)
          refine ⟨⟨1, by omega, rfl, ?_, ?_⟩, by simp [intOf]⟩
          · rw [HS.out]; have := HE.out; simpa using this
          · obtain ⟨m2, rfl⟩ := hW.out; exact Lib.hid ⟨_, World.drewN_drewN _ _ _⟩
        · have HE := Lib.hid (or_hi V x 8 (by simpa using hv) (by simp at hv; omega) (by omega) (by simp; omega))
          simp only [Int.reducePow] at hv
          go_wp2_with (go_at_call 38; refine HG.out.mono ?_; rintro e w1 ⟨rfl, m, rfl⟩)
          refine ⟨⟨2, by omega, rfl, ?_, ?_⟩, by simp [intOf]⟩
          · rw [HS.out]; have := HE.out; simpa using this
          · obtain ⟨m2, rfl⟩ := hW.out; exact Lib.hid ⟨_, World.drewN_drewN _ _ _⟩
        · have HE := Lib.hid (or_hi V x 16 (by simpa using hv) (by simp at hv; omega) (by omega) (by simp; omega))
          simp only [Int.reducePow] at hv
          go_wp2_with (go_at_call 38; refine HG.out.mono ?_; rintro e w1 ⟨rfl, m, rfl⟩)
          refine ⟨⟨3, by omega, rfl, ?_, ?_⟩, by simp [intOf]⟩
          · rw [HS.out]; have := HE.out; simpa using this
          · obtain ⟨m2, rfl⟩ := hW.out; exact Lib.hid ⟨_, World.drewN_drewN _ _ _⟩
        · have HE := Lib.hid (or_hi V x 24 (by simpa using hv) (by simp at hv; omega) (by omega) (by simp; omega))
          simp only [Int.reducePow] at hv
          go_wp2_with (go_at_call 38; refine HG.out.mono ?_; rintro e w1 ⟨rfl, m, rfl⟩)
          refine ⟨⟨4, by omega, rfl, ?_, ?_⟩, by simp [intOf]⟩
          · rw [HS.out]; have := HE.out; simpa using this
          · obtain ⟨m2, rfl⟩ := hW.out; exact Lib.hid ⟨_, World.drewN_drewN _ _ _⟩
      · obtain rfl : k = 4 := by omega
        clear hk hlt
        have e : wdK X a 4 = X.wd a := by simp [wdK, Rm.wd]
        rw [e]
        go_wp2
        go_ret2
        exact ⟨rfl, hW.out⟩
  · rw [decide_eq_false hlt] at hh ⊢
    rw [if_neg hlt]
    have HH := Lib.hid hh
    clear hh hlt hM ha
    go_enter Try.func19, Try.ntmps19
    go_wp2_with (go_at_call 37; refine HH.out.mono ?_; rintro e w' ⟨rfl, rfl⟩)
    go_ret2
    exact ⟨rfl, 0, rfl⟩
end
end Go.Proofs.Ytoejpdhcibbgdaa

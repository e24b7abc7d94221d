/-
  gcode.Decode: A CONTRACT.
-/
import Derived.Test.YtmgjojgjonighaaDoorGc6
import Derived.Test.YtmgjojgjonighaaDoorRd
import Derived.StillTailTactics
import Derived.Outline
import Derived.IntWalk
namespace Go.Proofs.YtmgjojgjonighaaDoor
open Go.RowKit
set_option linter.unusedSimpArgs false
set_option linter.unusedVariables false

/-- byte number j -/
def nth (l : List UInt8) (j : Nat) : Int := ((l.getD j 0).toNat : Int)
theorem nth_bd (l : List UInt8) (j : Nat) : 0 ≤ nth l j ∧ nth l j < 256 := by
  unfold nth; have := (l.getD j 0).toNat_lt; omega
def dcE (l : List UInt8) : Int := if l = [] then 10 else if szV (nth l 0) = 0 then 12 else if (l.length : Int) < szV (nth l 0) then 10 else 0
def dcS (l : List UInt8) : Int := if dcE l = 0 then szV (nth l 0) else 0
def dcO (l : List UInt8) : Int := if dcE l = 0 then nth l 0 else 0
def dcN (l : List UInt8) : Int :=
  if dcE l = 0 then (if szV (nth l 0) = 5 then nth l 1 + 256 * nth l 2 + 65536 * nth l 3 + 16777216 * nth l 4 else if szV (nth l 0) = 2 then nth l 1 else 0) else 0
theorem bv_at (l : List UInt8) (j : Nat) (h : j < l.length) : (bv l)[j]? = some (.int .u8 (nth l j)) := by
  simp [bv, nth, List.getD, List.getElem?_eq_getElem h]

set_option maxRecDepth 100000 in
theorem decode_nil (A : Option Addr) (c : Nat) (w : World) :
    Calls Tryd.prog 18 #[.slice A 0 c] w fun e w' => e = .returned (.tuple #[.agg #[.int .i64 0, .int .u32 0], .int .i64 0, .int .i64 10]) ∧ Below w.heap.size w w' := by
  go_enter Tryd.func18, Tryd.ntmps18
  go_wp2_with fail
  exact bodyPost_ret (v := .tuple #[.agg #[.int .i64 0, .int .u32 0], .int .i64 0, .int .i64 10]) (by simp [results, Tryd.results18, go_sem]) rfl ⟨rfl, (Below.refl _ _).alloc (Nat.le_refl _) _⟩
set_option maxRecDepth 100000 in
theorem decode_zero (g off len c : Nat) (b : Int) (b0 : 0 ≤ b) (b1 : b < 256) (hs : szV b = 0) (hl : 0 < len) (w : World) (hg : g < w.heap.size) (hc : w.cell? ⟨g, off, none⟩ = some (.int .u8 b)) :
    Calls Tryd.prog 18 #[.slice (some ⟨g, off, none⟩) len c] w fun e w' => e = .returned (.tuple #[.agg #[.int .i64 0, .int .u32 0], .int .i64 0, .int .i64 12]) ∧ Below w.heap.size w w' := by
  have hsz := size_any b
  rw [hs] at hsz
  have HS := Lib.hid hsz
  have hne : ((len : Int) == 0) = false := by simp; omega
  clear hsz hs
  go_enter Tryd.func18, Tryd.ntmps18
  go_wp2_with (go_at_call 15; refine (HS.out _).mono ?_; rintro e w' ⟨rfl, rfl⟩)
  exact bodyPost_ret (v := .tuple #[.agg #[.int .i64 0, .int .u32 0], .int .i64 0, .int .i64 12]) (by simp [results, Tryd.results18, go_sem]) rfl ⟨rfl, ((Below.refl _ _).alloc (Nat.le_refl _) _).alloc (by simp) _⟩
set_option maxRecDepth 100000 in
theorem decode_short (g off len c : Nat) (b s : Int) (b0 : 0 ≤ b) (b1 : b < 256) (hs : szV b = s) (hs0 : s ≠ 0) (hl : 0 < len) (hlt : (len : Int) < s) (w : World) (hg : g < w.heap.size) (hc : w.cell? ⟨g, off, none⟩ = some (.int .u8 b)) :
    Calls Tryd.prog 18 #[.slice (some ⟨g, off, none⟩) len c] w fun e w' => e = .returned (.tuple #[.agg #[.int .i64 0, .int .u32 0], .int .i64 0, .int .i64 10]) ∧ Below w.heap.size w w' := by
  have hsz := size_any b
  rw [hs] at hsz
  have HS := Lib.hid hsz
  have hne : ((len : Int) == 0) = false := by simp; omega
  have hse : (s == 0) = false := by simpa using hs0
  clear hsz hs hs0
  go_enter Tryd.func18, Tryd.ntmps18
  go_wp2_with (go_at_call 15; refine (HS.out _).mono ?_; rintro e w' ⟨rfl, rfl⟩)
  exact bodyPost_ret (v := .tuple #[.agg #[.int .i64 0, .int .u32 0], .int .i64 0, .int .i64 10]) (by simp [results, Tryd.results18, go_sem]) rfl ⟨rfl, ((Below.refl _ _).alloc (Nat.le_refl _) _).alloc (by simp) _⟩
/-- the number that the first k bytes make, the lowest first -/
def pt (F : Nat → Int) : Nat → Int
  | 0 => 0
  | k + 1 => pt F k + F k * 256 ^ k
theorem pt_bd (F : Nat → Int) (h : ∀ j, 0 ≤ F j ∧ F j < 256) (k : Nat) : 0 ≤ pt F k ∧ pt F k < 256 ^ k := by
  induction k with
  | zero => simp [pt]
  | succ k ih =>
    obtain ⟨h0, h1⟩ := h k
    have hp : (0 : Int) < 256 ^ k := Int.pow_pos (by omega)
    have e : (256 : Int) ^ (k + 1) = 256 ^ k * 256 := Int.pow_succ 256 k
    have h2 : 0 ≤ F k * 256 ^ k := Int.mul_nonneg h0 (by omega)
    have h3 : F k * 256 ^ k ≤ 255 * 256 ^ k := Int.mul_le_mul_of_nonneg_right (by omega) (by omega)
    unfold pt
    rw [e]
    omega
theorem pt_or (F : Nat → Int) (h : ∀ j, 0 ≤ F j ∧ F j < 256) (k : Nat) (hk : k < 4) : bits .or .u32 (pt F k) (F k * 2 ^ (8 * k) % 4294967296) = pt F (k + 1) := by
  obtain ⟨p0, p1⟩ := pt_bd F h k
  obtain ⟨f0, f1⟩ := h k
  obtain ⟨a, ha⟩ := Int.eq_ofNat_of_zero_le p0
  obtain ⟨b, hb⟩ := Int.eq_ofNat_of_zero_le f0
  have e1 : pt F (k + 1) = pt F k + F k * 256 ^ k := rfl
  rw [e1, ha, hb]
  have hk' : k = 0 ∨ k = 1 ∨ k = 2 ∨ k = 3 := by omega
  have key : ∀ (i : Nat), a < 2 ^ i → b * 2 ^ i < 4294967296 → a < 4294967296 → bits .or .u32 (a : Int) ((b : Int) * 2 ^ i % 4294967296) = (a : Int) + (b : Int) * 2 ^ i := by
    intro i h1 h2 h3
    have e2 : ((b : Int) * 2 ^ i % 4294967296) = ((b * 2 ^ i : Nat) : Int) := by
      have : ((b : Int) * 2 ^ i) = ((b * 2 ^ i : Nat) : Int) := by simp
      rw [this]; omega
    rw [e2, u32_or_nat _ _ h3 h2]
    have h4 := Nat.two_pow_add_eq_or_of_lt h1 b
    have h5 : a ||| b * 2 ^ i = b * 2 ^ i + a := by rw [Nat.or_comm, Nat.mul_comm, ← h4]
    rw [h5]
    simp; omega
  rcases hk' with rfl | rfl | rfl | rfl
  · have := key 0 (by simp at p1; omega) (by omega) (by simp at p1; omega); simpa using this
  · have := key 8 (by simp at p1; omega) (by omega) (by simp at p1; omega); simpa using this
  · have := key 16 (by simp at p1; omega) (by omega) (by simp at p1; omega); simpa using this
  · have := key 24 (by simp at p1; omega) (by omega) (by simp at p1; omega); simpa using this

set_option maxRecDepth 100000 in
set_option maxHeartbeats 1000000 in
theorem decode_more (g off len c m : Nat) (b : Int) (F : Nat → Int) (b0 : 0 ≤ b) (b1 : b < 256) (hm : m ≤ 4) (hs : szV b = m + 1) (hl : m + 1 ≤ len) (hlc : len ≤ c) (hcm : c ≤ maxLen) (hc1 : ¬ c = 1)
    (hF : ∀ j, 0 ≤ F j ∧ F j < 256) (w : World) (hg : g < w.heap.size) (hc : w.cell? ⟨g, off, none⟩ = some (.int .u8 b)) (hcs : ∀ j, j < m → w.cell? ⟨g, off + 1 + j, none⟩ = some (.int .u8 (F j))) :
    Calls Tryd.prog 18 #[.slice (some ⟨g, off, none⟩) len c] w fun e w' => e = .returned (.tuple #[.agg #[.int .i64 b, .int .u32 (pt F m)], .int .i64 (m + 1), .int .i64 0]) ∧ Below w.heap.size w w' := by
  have hsz := size_any b
  rw [hs] at hsz
  have HS := Lib.hid hsz
  have hne : ((len : Int) == 0) = false := by simp; omega
  have hse : ((m : Int) + 1 == 0) = false := by simp; omega
  have HC := Lib.hid hcs
  have HFF := Lib.hid hF
  clear hsz hs hcs hF
  unfold maxLen at hcm
  go_enter Tryd.func18, Tryd.ntmps18
  go_wp2_with (go_at_call 15; refine (HS.out _).mono ?_; rintro e w' ⟨rfl, rfl⟩)
  have k0 : Blk ((w.alloc (.cells #[.int .i64 0, .int .u32 0] 26)).alloc (.cells #[.int .i64 b, .int .u32 0] 26)) w.heap.size 26 #[.int .i64 0, .int .u32 0] := (Blk.new w _ _).alloc _
  have k1 : Blk ((w.alloc (.cells #[.int .i64 0, .int .u32 0] 26)).alloc (.cells #[.int .i64 b, .int .u32 0] 26)) (w.heap.size + 1) 26 #[.int .i64 b, .int .u32 0] := by
    have := Blk.new (w.alloc (.cells #[.int .i64 0, .int .u32 0] 26)) 26 #[.int .i64 b, .int .u32 0]; simpa using this
  have kb : Below w.heap.size w ((w.alloc (.cells #[.int .i64 0, .int .u32 0] 26)).alloc (.cells #[.int .i64 b, .int .u32 0] 26)) := ((Below.refl _ _).alloc (Nat.le_refl _) _).alloc (by simp) _
  generalize (w.alloc (.cells #[.int .i64 0, .int .u32 0] 26)).alloc (.cells #[.int .i64 b, .int .u32 0] 26) = W0 at *
  have K0 := Lib.hid k0
  have K1 := Lib.hid k1
  have KB := Lib.hid kb
  have HC0 := Lib.hid hc
  clear k0 k1 kb hc
  go_loopw [33] (fun i wr => ∃ k : Nat, k ≤ m ∧ i = .int .i64 k ∧ Hid (Blk wr w.heap.size 26 #[.int .i64 0, .int .u32 0]) ∧ Hid (Blk wr (w.heap.size + 1) 26 #[.int .i64 b, .int .u32 (pt F k)]) ∧ Hid (Below w.heap.size w wr)) (fun i _ => m - (intOf i).toNat)
  case atStart => exact ⟨0, by omega, rfl, K0, K1, KB⟩
  case round =>
    obtain ⟨k, hk, rfl, H0, H1, HB⟩ := hrel
    have c50 := H1.out.cell 0
    have c51 := H1.out.cell 1
    have c52 := H1.out.frozen 1
    simp at c50 c51
    by_cases hlt : k < m
    · have cF := (HB.out.cell (p := ⟨g, off + 1 + k, none⟩) hg).trans (HC.out k hlt)
      obtain ⟨f0, f1⟩ := HFF.out k
      obtain ⟨p0, p1⟩ := pt_bd F HFF.out k
      have hor := pt_or F HFF.out k (by omega)
      have e1 : IntKind.u32.wrap (F k) = F k := by rw [IntKind.wrap_u32]; omega
      have e2 : IntKind.i64.wrap (8 * (k : Int)) = 8 * (k : Int) := IntWalk.i64_in _ (by omega)
      have HOR := Lib.hid hor
      clear hor
      have N1 : Blk (wr.drew.setCell ⟨w.heap.size + 1, 1, none⟩ (.int .u32 (bits .or .u32 (pt F k) (F k * 2 ^ (8 * k) % 4294967296)))) (w.heap.size + 1) 26 #[.int .i64 b, .int .u32 (pt F (k + 1))] := by
        have := Blk.put (w := wr.drew) H1.out 1 (.int .u32 (bits .or .u32 (pt F k) (F k * 2 ^ (8 * k) % 4294967296))); have h2 := HOR.out; rw [h2] at this ⊢; simpa using this
      have N0 : Blk (wr.drew.setCell ⟨w.heap.size + 1, 1, none⟩ (.int .u32 (bits .or .u32 (pt F k) (F k * 2 ^ (8 * k) % 4294967296)))) w.heap.size 26 #[.int .i64 0, .int .u32 0] := Blk.far (w := wr.drew) H0.out (by simp) _
      have NB : Below w.heap.size w (wr.drew.setCell ⟨w.heap.size + 1, 1, none⟩ (.int .u32 (bits .or .u32 (pt F k) (F k * 2 ^ (8 * k) % 4294967296)))) := HB.out.drew.setCell (by simp) _
      have M0 := Lib.hid N0
      have M1 := Lib.hid N1
      have MB := Lib.hid NB
      clear N0 N1 NB
      go_wp2_with fail
      go_still_tail 9, (by kernel_rfl)
      clear e1 e2
      have d1 : wr.drew.cell? ⟨w.heap.size + 1, 1, none⟩ = some (.int .u32 (pt F k)) := c51
      have d2 : wr.drew.frozen? ⟨w.heap.size + 1, 1, none⟩ = false := c52
      change wpList _ _ _ _ _ wr.drew
      generalize wr.drew = w2 at *
      go_wp2
      go_roundw
      case rel => exact ⟨k + 1, by omega, by go_num, M0, M1, MB⟩
      case measure => simp [intOf]; omega
    · have hkm : k = m := by omega
      subst hkm
      have c00 := H0.out.cell 0
      have c01 := H0.out.cell 1
      have c02 := H0.out.frozen 0
      have c03 := H0.out.frozen 1
      have hz := H1.out.lt
      simp at c00 c01
      go_wp2
      exact bodyPost_ret (v := .tuple #[.agg #[.int .i64 b, .int .u32 (pt F k)], .int .i64 (k + 1), .int .i64 0]) (by simp [results, Tryd.results18, go_sem, c00, c01]) rfl ⟨rfl, (HB.out.setCell (by simp) _).setCell (by simp) _⟩

set_option maxRecDepth 100000 in
theorem decode_c1 (g off : Nat) (b : Int) (b0 : 0 ≤ b) (b1 : b < 256) (hs : szV b = 1) (w : World) (hg : g < w.heap.size) (hc : w.cell? ⟨g, off, none⟩ = some (.int .u8 b)) :
    Calls Tryd.prog 18 #[.slice (some ⟨g, off, none⟩) 1 1] w fun e w' => e = .returned (.tuple #[.agg #[.int .i64 b, .int .u32 0], .int .i64 1, .int .i64 0]) ∧ Below w.heap.size w w' := by
  have hsz := size_any b
  rw [hs] at hsz
  have HS := Lib.hid hsz
  clear hsz hs
  go_enter Tryd.func18, Tryd.ntmps18
  go_wp2_with (go_at_call 15; refine (HS.out _).mono ?_; rintro e w' ⟨rfl, rfl⟩)
  refine wp_loop_rounds 1 ?_
  rw [rounds_succ]
  go_wp2
  exact bodyPost_ret (v := .tuple #[.agg #[.int .i64 b, .int .u32 0], .int .i64 1, .int .i64 0]) (by simp [results, Tryd.results18, go_sem]) rfl ⟨rfl, (((Below.refl _ _).alloc (Nat.le_refl _) _).alloc (by simp) _)⟩

theorem decode_any (A : Option Addr) (c : Nat) (l : List UInt8) (hl : l.length ≤ c) (hc : c ≤ maxLen) (w : World) (hr : Rd w w.heap.size A (bv l)) :
    Calls Tryd.prog 18 #[.slice A l.length c] w fun e w' => e = .returned (.tuple #[.agg #[.int .i64 (dcO l), .int .u32 (dcN l)], .int .i64 (dcS l), .int .i64 (dcE l)]) ∧ Below w.heap.size w w' := by
  by_cases h0 : l = []
  · subst h0
    exact decode_nil A c w
  have hpos : 0 < l.length := List.length_pos_iff.2 h0
  obtain ⟨g, off, rfl, hg, hcell⟩ := hr (by rw [bv_length]; exact hpos)
  have hn : ∀ j, j < l.length → w.cell? ⟨g, off + j, none⟩ = some (.int .u8 (nth l j)) := fun j hj => hcell j _ (bv_at l j hj)
  obtain ⟨b0, b1⟩ := nth_bd l 0
  have hc0 : w.cell? ⟨g, off, none⟩ = some (.int .u8 (nth l 0)) := hn 0 hpos
  by_cases hz : szV (nth l 0) = 0
  · have e1 : dcE l = 12 := by simp [dcE, h0, hz]
    simp only [dcO, dcN, dcS, e1]
    exact decode_zero g off l.length c _ b0 b1 hz hpos w hg hc0
  by_cases hlt : (l.length : Int) < szV (nth l 0)
  · have e1 : dcE l = 10 := by simp [dcE, h0, hz, hlt]
    simp only [dcO, dcN, dcS, e1]
    exact decode_short g off l.length c _ _ b0 b1 rfl hz hpos hlt w hg hc0
  have e1 : dcE l = 0 := by simp [dcE, h0, hz, hlt]
  have hmore : ∀ m : Nat, m ≤ 4 → szV (nth l 0) = m + 1 → ¬ c = 1 → Calls Tryd.prog 18 #[.slice (some ⟨g, off, none⟩) l.length c] w fun e w' => e = .returned (.tuple #[.agg #[.int .i64 (nth l 0), .int .u32 (pt (fun j => nth l (j + 1)) m)], .int .i64 (m + 1), .int .i64 0]) ∧ Below w.heap.size w w' := fun m h4 hm hc1 =>
    decode_more g off l.length c m _ (fun j => nth l (j + 1)) b0 b1 h4 hm (by omega) hl hc hc1 (fun j => nth_bd l (j + 1)) w hg hc0 (fun j hj => by
      have := hn (j + 1) (by omega)
      rw [show off + 1 + j = off + (j + 1) by omega]; exact this)
  rcases szV_cases (nth l 0) with h | h | h | h
  · exact absurd h hz
  · simp only [dcO, dcN, dcS, e1, h]
    by_cases hc1 : c = 1
    · subst hc1
      have : l.length = 1 := by omega
      rw [this]
      exact decode_c1 g off _ b0 b1 h w hg hc0
    · have := hmore 0 (by omega) (by rw [h]; rfl) hc1
      simpa [pt] using this
  · simp only [dcO, dcN, dcS, e1, h]
    have := hmore 1 (by omega) (by rw [h]; rfl) (by omega)
    simpa [pt] using this
  · simp only [dcO, dcN, dcS, e1, h]
    have := hmore 4 (by omega) (by rw [h]; rfl) (by omega)
    have e2 : pt (fun j => nth l (j + 1)) 4 = nth l 1 + 256 * nth l 2 + 65536 * nth l 3 + 16777216 * nth l 4 := by simp [pt]; omega
    rw [e2] at this
    simpa using this
end Go.Proofs.YtmgjojgjonighaaDoor

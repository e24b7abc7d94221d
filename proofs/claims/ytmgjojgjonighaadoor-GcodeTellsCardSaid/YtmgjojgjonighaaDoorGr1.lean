/-
  innkeeperref2.Encode, innkeeperref2.Decode, innkeeperlaw2.digits: A CONTRACT EACH.
-/
import Derived.Test.YtmgjojgjonighaaDoorGc9
import Derived.Test.YtmgjojgjonighaaDoorGc2
import Derived.Test.YtmgjojgjonighaaDoorGc5
import Derived.StillTailTactics
import Derived.Outline
import Derived.IntWalk
namespace Go.Proofs.YtmgjojgjonighaaDoor
open Go.RowKit
set_option linter.unusedSimpArgs false
set_option linter.unusedVariables false

/-- the first k bytes of an instruction -/
def pre (op n : Int) (k : Nat) : List UInt8 := (ecV op n).take k
theorem shr_byte (n : Int) (n0 : 0 ≤ n) (j : Nat) : ((byt (n / 2 ^ (8 * j))).toNat : Int) = n / 2 ^ (8 * j) % 256 := byt_val _ (Int.ediv_nonneg n0 (Int.le_of_lt (Int.pow_pos (by omega))))

theorem Blk.ext {w w' : World} {g : Nat} {t e : TypeId} {cs : Array Value} {B sz n n' : Nat} {v v' : Value} {xs xs' : List Value} (h : Blk w g t cs) (ho : w.ownsRow B e sz v n xs) (hne : e ≠ t) (k : Ext B e sz w w' v v' n' xs') : Blk w' g t cs := by
  refine (k.grew.block g h.lt ?_).trans h
  rcases ho.2 with ⟨rfl, _⟩ | ⟨g', cap', cur', rfl, _, hg', _⟩
  · simp [Value.ownBlock]
  · intro e1
    have : g = g' := by simpa [Value.ownBlock] using e1
    subst this
    unfold Blk at h
    rw [h] at hg'
    injection hg' with e2
    injection e2 with _ e3
    exact hne e3.symm
theorem bv_take_succ (l : List UInt8) (k : Nat) (x : Int) (h : k < l.length) (hx : ((l.getD k 0).toNat : Int) = x) : bv (l.take (k + 1)) = bv (l.take k) ++ [.int .u8 x] := by
  rw [List.take_succ_eq_append_getElem h, bv_append]
  congr 1
  rw [← hx]
  simp [bv, List.getD, List.getElem?_eq_getElem h]

set_option maxRecDepth 100000 in
set_option maxHeartbeats 1000000 in
theorem rencode_any (op n : Int) (hk : okV op n = true) (n0 : 0 ≤ n) (n1 : n < 4294967296) (w : World) :
    Calls Tryd.prog 31 #[.agg #[.int .i64 op, .int .u32 n]] w fun e w' => ∃ A c, e = .returned (.slice A (ecV op n).length c) ∧ w'.ownsRow w.heap.size 5 1 (.slice A (ecV op n).length c) (ecV op n).length (bv (ecV op n)) ∧ Below w.heap.size w w' := by
  obtain ⟨o0, o1⟩ := szV_bd op (ok_sz hk)
  have hs := rsize_any op
  have hl := ecV_len op n (ok_sz hk)
  have hp : 0 < (ecV op n).length := by have := szV_cases op; have := ok_sz hk; omega
  obtain ⟨t, ht⟩ : ∃ t, ecV op n = byt op :: t := by
    unfold ecV; split
    · exact ⟨_, rfl⟩
    · split
      · exact ⟨_, rfl⟩
      · exact ⟨_, rfl⟩
  rw [← hl] at hs
  have hb5 : (ecV op n).length ≤ 5 := by have := szV_cases op; omega
  -- byte number k of the instruction, k from 1 on
  have hbyte : ∀ k : Nat, 1 ≤ k → k < (ecV op n).length → (((ecV op n).getD k 0).toNat : Int) = n / 2 ^ (8 * (k - 1)) % 256 := by
    intro k h1 h2
    rcases szV_cases op with h | h | h | h
    · exact absurd h (ok_sz hk)
    · rw [h] at hl; omega
    · rw [h] at hl
      obtain rfl : k = 1 := by omega
      have e : ecV op n = [byt op, byt n] := by simp [ecV, h]
      rw [e]; simp [byt_val n n0]
    · rw [h] at hl
      have e : ecV op n = [byt op, byt n, byt (n / 256), byt (n / 65536), byt (n / 16777216)] := by simp [ecV, h]
      rw [e]
      have hk4 : k = 1 ∨ k = 2 ∨ k = 3 ∨ k = 4 := by omega
      rcases hk4 with rfl | rfl | rfl | rfl
      · simp [byt_val n n0]
      · simp [byt_val (n / 256) (by omega)]
      · simp [byt_val (n / 65536) (by omega)]
      · simp [byt_val (n / 16777216) (by omega)]
  have HS := Lib.hid hs
  have HL := Lib.hid hl
  have HBY := Lib.hid hbyte
  have HTT := Lib.hid ht
  have HB := Lib.hid (box_two w (.int .i64 op) (.int .u32 n) 26 5 #[.int .u8 op])
  clear hs hl hbyte hk
  go_enter Tryd.func31, Tryd.ntmps31
  go_wp2_with fail
  have k0 : Blk ((w.alloc (.cells #[.int .i64 op, .int .u32 n] 26)).alloc (.cells #[.int .u8 op] 5)) w.heap.size 26 #[.int .i64 op, .int .u32 n] := (Blk.new w _ _).alloc _
  have k1 : ((w.alloc (.cells #[.int .i64 op, .int .u32 n] 26)).alloc (.cells #[.int .u8 op] 5)).ownsRow w.heap.size 5 1 (.slice (some ⟨w.heap.size + 1, 0, none⟩) 1 1) 1 (bv ((ecV op n).take 1)) := by
    refine ⟨by rw [HTT.out]; rfl, .inr ⟨w.heap.size + 1, 1, #[.int .u8 op], rfl, by omega, HB.out.2.2, by omega, by unfold maxLen; omega, rfl, ?_⟩⟩
    rw [HTT.out]; simp [bv, byt_of op o0 (by omega)]
  have kb : Below w.heap.size w ((w.alloc (.cells #[.int .i64 op, .int .u32 n] 26)).alloc (.cells #[.int .u8 op] 5)) := ((Below.refl _ _).alloc (Nat.le_refl _) _).alloc (by simp) _
  generalize (w.alloc (.cells #[.int .i64 op, .int .u32 n] 26)).alloc (.cells #[.int .u8 op] 5) = W0 at *
  have K0 := Lib.hid k0
  have K1 := Lib.hid k1
  have KB := Lib.hid kb
  clear k0 k1 kb HB ht
  go_loopw [3, 4] (fun b i wr => ∃ (k : Nat) (A : Option Addr) (c : Nat), b = .slice A k c ∧ i = .int .i64 k ∧ 1 ≤ k ∧ k ≤ (ecV op n).length ∧ Hid (wr.ownsRow w.heap.size 5 1 (.slice A k c) k (bv ((ecV op n).take k))) ∧ Hid (Blk wr w.heap.size 26 #[.int .i64 op, .int .u32 n]) ∧ Hid (Below w.heap.size w wr)) (fun _ i _ => (ecV op n).length - (intOf i).toNat)
  case atStart => exact ⟨1, _, 1, rfl, rfl, by omega, by omega, K1, K0, KB⟩
  case round =>
    obtain ⟨k, A, c, rfl, rfl, hk1, hkl, hO, hK, hB⟩ := hrel
    have c0 := hK.out.cell 0
    have c1 := hK.out.cell 1
    have hz := hB.out.size
    have hz1 := hK.out.lt
    simp at c0 c1
    by_cases hlt : k < (ecV op n).length
    · have hby := HBY.out k hk1 hlt
      have hk4 : k = 1 ∨ k = 2 ∨ k = 3 ∨ k = 4 := by omega
      generalize hE : (ecV op n).length = len at *
      have HE := Lib.hid hE
      have HBB := Lib.hid hby
      clear hE hby
      rcases hk4 with rfl | rfl | rfl | rfl
      all_goals
        go_wp2_with (first
          | (at_builtin; refine wpList_app rfl (.tmp 16) (.tmp 25) _ rfl w.heap.size 5 _ 1 1 Tryd.underlying27 Tryd.info_u8 rfl (by omega) _ _ _ rfl (hO.out.alloc _) wr.heap.size 1 1 _ _ _ rfl (heap_alloc_new _ _) rfl (by simp [Value.oneCell']) (by omega) (by unfold maxLen; omega) (by omega) (by simp; omega) ?_; intro g4 c4 w4 hx4; have X4 := Lib.hid hx4; clear hx4)
          | (go_at_call 29; refine (HS.out _).mono ?_; rintro e w' ⟨rfl, rfl⟩))
        have h := X4.out.own
        have NB := Lib.hid ((hB.out.alloc hz _).trans (X4.out.below (by simp; omega) (hO.out.alloc _)))
        have NK := Lib.hid (Blk.ext (hK.out.alloc _) (hO.out.alloc _) (by decide) X4.out)
        have hbb := HBB.out
        have e1 := bv_take_succ (ecV op n) _ _ (by rw [HE.out]; exact hlt) hbb
        simp only [Nat.sub_self, Nat.mul_zero, Nat.add_one_sub_one, Nat.reduceAdd, Nat.reduceMul, Nat.reduceSub] at e1
        go_roundw
        case rel =>
          refine ⟨_, some ⟨g4, 0, none⟩, c4, rfl, by go_num, by omega, by omega, ?_, NK, NB⟩
          apply Lib.hid
          rw [e1]
          have e24 : n / 16777216 % 256 = n / 16777216 := by omega
          simp only [Int.pow_zero, Int.ediv_one, Int.reducePow]
          first | exact h | (rw [e24]; exact h)
        case measure => simp [intOf]; omega
    · have hkk : k = (ecV op n).length := by omega
      go_wp2_with (go_at_call 29; refine (HS.out _).mono ?_; rintro e w' ⟨rfl, rfl⟩)
      go_ret
      subst hkk
      have h := hO.out
      rw [List.take_length] at h
      exact ⟨A, c, rfl, h, hB.out⟩

theorem dec_ne (u : Nat) : Lib.decDigits u ≠ [] := by
  intro h
  have := Lib.decDigits_length u
  rw [h] at this
  have := Lib.nDigits_pos u
  simp at *; omega
theorem dec_step (m : Nat) (h : 0 < m) : Lib.decDigits m = (if m / 10 = 0 then [] else Lib.decDigits (m / 10)) ++ [UInt8.ofNat (48 + m % 10)] := by
  rw [Lib.decDigits]
  split
  · rename_i h1
    rw [if_pos (by omega), Nat.mod_eq_of_lt h1]; rfl
  · rw [if_neg (by omega)]
set_option maxRecDepth 100000 in
set_option maxHeartbeats 1000000 in
theorem digits_pos (u : Nat) (hu : u < 4294967296) (hp : 0 < u) (w : World) :
    Calls Tryd.prog 30 #[.int .u32 u] w fun e w' => e = .returned (.string ⟨(Lib.decDigits u).toArray⟩) ∧ w = w' := by
  have hlen := dec_len u (by omega)
  go_enter Tryd.func30, Tryd.ntmps30
  go_wp2_with fail
  go_loop [0, 3] (fun vn vs => ∃ (m : Nat) (l : List UInt8), vn = .int .u32 m ∧ vs = .string ⟨l.toArray⟩ ∧ m ≤ u ∧ l.length ≤ 20 ∧ Hid (Lib.decDigits u = (if m = 0 then [] else Lib.decDigits m) ++ l)) (fun vn vs => (intOf vn).toNat)
  case atStart => exact ⟨u, [], rfl, rfl, by omega, by simp, Lib.hid (by rw [if_neg (by omega)]; simp)⟩
  case round =>
    obtain ⟨m, l, rfl, rfl, hm, hl, h1⟩ := hrel
    by_cases hm0 : 0 < m
    · have hen : Utf8.encode (48 + (m : Int) % 10) = ⟨#[UInt8.ofNat (48 + m % 10)]⟩ := by
        have e : (48 + (m : Int) % 10).toNat = 48 + m % 10 := by omega
        have hv : Utf8.valid (48 + (m : Int) % 10) = true := by unfold Utf8.valid; simp; omega
        unfold Utf8.encode
        rw [hv]
        simp only [if_true, e]
        rw [if_pos (by omega)]
      have hsz : ¬ 9223372036854775807 < (Utf8.encode (48 + (m : Int) % 10)).size + l.length := by
        rw [hen]; show ¬ 9223372036854775807 < 1 + l.length; omega
      have hl20 : (UInt8.ofNat (48 + m % 10) :: l).length ≤ 20 := by
        have e := h1.out
        rw [if_neg (by omega), dec_step m hm0] at e
        rw [e] at hlen
        simp at hlen ⊢; omega
      have HEN := Lib.hid hen
      clear hen
      go_wp2_with fail
      go_round
      case rel =>
        refine ⟨m / 10, UInt8.ofNat (48 + m % 10) :: l, by go_num, ?_, by omega, hl20, ?_⟩
        · rw [HEN.out, ByteArray.mk_append_mk]; simp
        · apply Lib.hid
          have e := h1.out
          rw [if_neg (by omega), dec_step m hm0] at e
          rw [e]; simp
      case measure => simp [intOf]; omega
    · obtain rfl : m = 0 := by omega
      have e := h1.out
      rw [if_pos rfl, List.nil_append] at e
      have hne : l ≠ [] := by rw [← e]; exact dec_ne u
      have hne2 : l.isEmpty = false := by cases l <;> simp_all
      go_wp2_with fail
      go_ret
      exact ⟨rfl, rfl⟩
theorem digits_any (u : Nat) (hu : u < 4294967296) (w : World) :
    Calls Tryd.prog 30 #[.int .u32 u] w fun e w' => e = .returned (.string ⟨(Lib.decDigits u).toArray⟩) ∧ w = w' := by
  rcases Nat.eq_zero_or_pos u with h | h
  · subst h
    rw [show Lib.decDigits 0 = [48] by rw [Lib.decDigits]; rfl]
    have hen : Utf8.encode 48 = ⟨#[48]⟩ := by decide
    have hap : (⟨#[48]⟩ : ByteArray) ++ ⟨#[]⟩ = ⟨#[48]⟩ := by decide
    go_enter Tryd.func30, Tryd.ntmps30
    go_wp2_with fail
    refine wp_loop_rounds 2 ?_
    rw [rounds_succ]
    go_wp2
    rw [rounds_succ]
    go_wp2
    go_ret
    exact ⟨rfl, rfl⟩
  · exact digits_pos u hu h w
end Go.Proofs.YtmgjojgjonighaaDoor

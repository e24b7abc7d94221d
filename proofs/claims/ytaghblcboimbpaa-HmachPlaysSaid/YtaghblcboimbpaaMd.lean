/-
  innkeeperlaw4.made: A CONTRACT.
-/
import Derived.Test.YtaghblcboimbpaaRowH
import Derived.Test.YtaghblcboimbpaaHmd
import Derived.Test.YtaghblcboimbpaaHr
import Derived.Test.YtaghblcboimbpaaHp
namespace Go.Proofs.Ytaghblcboimbpaa
open Go.RowKit
set_option linter.unusedSimpArgs false
set_option linter.unusedVariables false

/-- what is made of an instruction, tame or not -/
def md4 (t : Bool) (p : Hi) : Hi := mdI p.o p.d p.a p.b (if t = true then p.n % 40 else p.n)
theorem md4_ok (t : Bool) (p : Hi) (h : p.In) : (md4 t p).Ok := by
  obtain ⟨_, _, _, _, n0, n1⟩ := h
  unfold md4
  cases t
  · exact mdI_ok _ _ _ _ _ n0 n1
  · exact mdI_ok _ _ _ _ _ (by simp; omega) (by simp; omega)
/-- the code of what is made -/
def md4s (t : Bool) (L : List Hi) : List Hi := (L.take 30).map (md4 t)
theorem md4s_ok (t : Bool) (L : List Hi) (h : ∀ p ∈ L, p.In) : ∀ p ∈ md4s t L, p.Ok := by
  intro p hp
  obtain ⟨q, hq, rfl⟩ := List.mem_map.1 hp
  exact md4_ok t q (h q (List.mem_of_mem_take hq))
theorem md4s_len (t : Bool) (L : List Hi) : (md4s t L).length ≤ 30 := by simp [md4s]; omega
theorem rf_enc (p : Hi) (h : p.Ok) : rfV p.o p.d p.a p.b p.n = p.enc := rf_ok _ _ _ _ _ h.1 h.2.1

/-- the code of L, in a row of its own -/
def Coded (L : List Hi) (w : World) (e : Ending) (w' : World) : Prop := ∃ A' c', e = .returned (.slice A' (8 * L.length) c') ∧ w'.ownsRow w.heap.size 5 1 (.slice A' (8 * L.length) c') (8 * L.length) (bv (encs L)) ∧ Below w.heap.size w w'

set_option maxRecDepth 100000 in
set_option maxHeartbeats 8000000 in
theorem made_any (A : Option Addr) (c : Nat) (L : List Hi) (hc : L.length ≤ maxLen) (t : Bool) (w : World) (hr : RdI w w.heap.size A L) (hin : ∀ p ∈ L, p.In) :
    Calls Try.prog 10 #[.slice A L.length c, .bool t] w (Coded (md4s t L) w) := by
  have HR := Lib.hid hr
  have HIN := Lib.hid hin
  have hml : ∀ k, k ≤ L.length → k ≤ 30 → ((L.take k).map (md4 t)).length = k := fun k h1 h2 => by simp; omega
  have HML := Lib.hid hml
  clear hr hin hml
  unfold maxLen at hc
  go_enter Try.func10, Try.ntmps10
  go_wp2_with fail
  go_loopw [5, 6] (fun v i wr => ∃ (k : Nat) (A' : Option Addr) (c' : Nat), v = .slice A' (8 * k) c' ∧ i = .int .i64 k ∧ k ≤ L.length ∧ k ≤ 30 ∧ Hid (wr.ownsRow w.heap.size 5 1 (.slice A' (8 * k) c') (8 * k) (bv (encs ((L.take k).map (md4 t))))) ∧ Hid (Below w.heap.size w wr)) (fun _ i _ => 30 - (intOf i).toNat)
  case atStart => exact ⟨0, none, 0, rfl, rfl, by omega, by omega, Lib.hid (by simpa [encs, bv] using World.ownsRow_nil w w.heap.size 5 1), Below.refl _ _⟩
  case round =>
    obtain ⟨k, A', c', rfl, rfl, hk, hk30, hO, hB⟩ := hrel
    by_cases hgo : k < L.length ∧ k < 30
    · obtain ⟨g1, g2⟩ := hgo
      obtain ⟨gl, ol, rfl, hgl, hcl⟩ := HR.out (by omega)
      obtain ⟨e1, e2, e3, e4, e5⟩ := hcl k g1
      have d1 := (hB.out.cell (p := ⟨gl, _, none⟩) hgl).trans e1
      have d2 := (hB.out.cell (p := ⟨gl, _, none⟩) hgl).trans e2
      have d3 := (hB.out.cell (p := ⟨gl, _, none⟩) hgl).trans e3
      have d4 := (hB.out.cell (p := ⟨gl, _, none⟩) hgl).trans e4
      have d5 := (hB.out.cell (p := ⟨gl, _, none⟩) hgl).trans e5
      have hz := hB.out.size
      clear hcl e1 e2 e3 e4 e5
      have htk : L.take (k + 1) = L.take k ++ [L[k]] := List.take_succ_eq_append_getElem g1
      have hi := HIN.out L[k] (List.getElem_mem g1)
      have hok := md4_ok t L[k] hi
      have HT := Lib.hid htk
      clear htk
      generalize hop : L[k] = q at *
      obtain ⟨o, d, a, b, n⟩ := q
      simp only at d1 d2 d3 d4 d5
      obtain ⟨⟨o0, o1⟩, ⟨p0, p1⟩, ⟨a0, a1⟩, ⟨b0, b1⟩, n0, n1⟩ := hi
      have hglr : gl < wr.heap.size := by omega
      simp only at o0 o1 p0 p1 a0 a1 b0 b1 n0 n1
      have ho := within_book o 19 o0 o1 (by omega) (by omega)
      have hd := within_book d 15 p0 p1 (by omega) (by omega)
      have ha := within_book a 15 a0 a1 (by omega) (by omega)
      have hb := within_book b 15 b0 b1 (by omega) (by omega)
      obtain ⟨x0, x1⟩ := wdV_bd o 0 19 (by omega)
      have hmk : md4 t { o := o, d := d, a := a, b := b, n := n } = ⟨wdV o 0 19, kp (uD (wdV o 0 19)) (wdV d 0 15), kp (uA (wdV o 0 19)) (wdV a 0 15), kp (uB (wdV o 0 19)) (wdV b 0 15), kp (uN (wdV o 0 19)) (if t = true then n % 40 else n)⟩ := rfl
      clear o0 o1 p0 p1 a0 a1 b0 b1
      generalize wdV o 0 19 = x at *
      generalize wdV d 0 15 = y1 at *
      generalize wdV a 0 15 = y2 at *
      generalize wdV b 0 15 = y3 at *
      have hf := fields_any x
      obtain ⟨t1, t2, t3, t4⟩ := fd_bits x x0 x1
      generalize fdV x = F at *
      have HOP := Lib.hid hop
      have HO := Lib.hid ho
      have HD := Lib.hid hd
      have HA := Lib.hid ha
      have HBB := Lib.hid hb
      have HF := Lib.hid hf
      have HOK := Lib.hid hok
      clear ho hd ha hb hf hop hok
      rcases fd_kinds x x0 x1 with ⟨q1, q2, q3, q4⟩ | ⟨q1, q2, q3, q4⟩ | ⟨q1, q2, q3, q4⟩ | ⟨q1, q2, q3, q4⟩ | ⟨q1, q2, q3, q4⟩ | ⟨q1, q2, q3, q4⟩ | ⟨q1, q2, q3, q4⟩ | ⟨q1, q2, q3, q4⟩
      · rw [q1] at t1 hmk
        rw [q2] at t2 hmk
        rw [q3] at t3 hmk
        rw [q4] at t4 hmk
        simp only [kp, if_true, if_false, Bool.false_eq_true] at hmk
        clear q1 q2 q3 q4 x0 x1 HD HA HBB
        cases t
        · skip
          have hmo := hmk
          rw [hmk] at HOK
          have HMK := Lib.hid hmk
          clear hmk hmo
          have HE := Lib.hid (rencode_any x 0 0 0 (0) (by omega) (by omega))
          have HRF := Lib.hid (rf_enc ⟨x, 0, 0, 0, 0⟩ HOK.out)
          have hO2 := Lib.hid (hO.out.alloc (.cells #[.int .i64 x, .int .i64 0, .int .i64 0, .int .i64 0, .int .u32 (0)] 35))
          have hB2 := Lib.hid (hB.out.alloc (by omega) (.cells #[.int .i64 x, .int .i64 0, .int .i64 0, .int .i64 0, .int .u32 (0)] 35))
          go_wp2_with (first
            | (go_at_call 20; with_reducible refine (HO.out _).mono ?_; rintro e w1 ⟨rfl, rfl⟩; clear HO)
            | (go_at_call 28; with_reducible refine (HF.out _).mono ?_; rintro e w1 ⟨rfl, rfl⟩; clear HF)
            | (go_at_call 27; with_reducible refine (HE.out _).mono ?_; rintro e w2 ⟨rfl, hoe, hbe⟩; have O2 := Lib.hid (own_below hO2.out hbe); have B2 := Lib.hid (hB2.out.trans (hbe.mono (by simp; omega))); have hr2 := Rd.of_own hoe; simp only [World.size_alloc] at hr2; have R2 := Lib.hid hr2; clear hr2; have hz2 := hbe.size; clear hoe hbe HE)
            | (at_builtin; refine wpList_app_rd rfl (.tmp 73) (.tmp 75) _ rfl w.heap.size 5 _ 1 1 Try.underlying31 Try.info_u8 rfl (by omega) (.slice A' (8 * k) c') (8 * k) _ rfl O2.out w2.heap.size _ 8 8 _ rfl R2.out (by rw [bv_length]; rfl) (bv_one _) (by unfold maxLen; omega) (by omega) (by simp at hz2; omega) ?_; intro A4 c4 w4 hx4; have O4 := Lib.hid hx4.own; have B4 := Lib.hid (B2.out.trans (hx4.below (by simp at hz2; omega) O2.out)); clear hx4))
          go_roundw
          case rel =>
            refine ⟨k + 1, A4, c4, by rw [show 8 * (k + 1) = 8 * k + 8 by omega], by go_num, by omega, by omega, ?_, B4⟩
            apply Lib.hid
            rw [HT.out, List.map_append, List.map_singleton, HMK.out, encs_append, encs_cons, encs_nil, List.append_nil, bv_append, show 8 * (k + 1) = 8 * k + 8 by omega, ← HRF.out]
            exact O4.out
          case measure => simp [intOf]; omega
        · skip
          have hmo := hmk
          rw [hmk] at HOK
          have HMK := Lib.hid hmk
          clear hmk hmo
          have HE := Lib.hid (rencode_any x 0 0 0 (0) (by omega) (by omega))
          have HRF := Lib.hid (rf_enc ⟨x, 0, 0, 0, 0⟩ HOK.out)
          have hO2 := Lib.hid (hO.out.alloc (.cells #[.int .i64 x, .int .i64 0, .int .i64 0, .int .i64 0, .int .u32 (0)] 35))
          have hB2 := Lib.hid (hB.out.alloc (by omega) (.cells #[.int .i64 x, .int .i64 0, .int .i64 0, .int .i64 0, .int .u32 (0)] 35))
          go_wp2_with (first
            | (go_at_call 20; with_reducible refine (HO.out _).mono ?_; rintro e w1 ⟨rfl, rfl⟩; clear HO)
            | (go_at_call 28; with_reducible refine (HF.out _).mono ?_; rintro e w1 ⟨rfl, rfl⟩; clear HF)
            | (go_at_call 27; with_reducible refine (HE.out _).mono ?_; rintro e w2 ⟨rfl, hoe, hbe⟩; have O2 := Lib.hid (own_below hO2.out hbe); have B2 := Lib.hid (hB2.out.trans (hbe.mono (by simp; omega))); have hr2 := Rd.of_own hoe; simp only [World.size_alloc] at hr2; have R2 := Lib.hid hr2; clear hr2; have hz2 := hbe.size; clear hoe hbe HE)
            | (at_builtin; refine wpList_app_rd rfl (.tmp 73) (.tmp 75) _ rfl w.heap.size 5 _ 1 1 Try.underlying31 Try.info_u8 rfl (by omega) (.slice A' (8 * k) c') (8 * k) _ rfl O2.out w2.heap.size _ 8 8 _ rfl R2.out (by rw [bv_length]; rfl) (bv_one _) (by unfold maxLen; omega) (by omega) (by simp at hz2; omega) ?_; intro A4 c4 w4 hx4; have O4 := Lib.hid hx4.own; have B4 := Lib.hid (B2.out.trans (hx4.below (by simp at hz2; omega) O2.out)); clear hx4))
          go_roundw
          case rel =>
            refine ⟨k + 1, A4, c4, by rw [show 8 * (k + 1) = 8 * k + 8 by omega], by go_num, by omega, by omega, ?_, B4⟩
            apply Lib.hid
            rw [HT.out, List.map_append, List.map_singleton, HMK.out, encs_append, encs_cons, encs_nil, List.append_nil, bv_append, show 8 * (k + 1) = 8 * k + 8 by omega, ← HRF.out]
            exact O4.out
          case measure => simp [intOf]; omega
      · rw [q1] at t1 hmk
        rw [q2] at t2 hmk
        rw [q3] at t3 hmk
        rw [q4] at t4 hmk
        simp only [kp, if_true, if_false, Bool.false_eq_true] at hmk
        clear q1 q2 q3 q4 x0 x1 HA HBB
        cases t
        · simp only [Bool.false_eq_true, if_false] at hmk
          have hmo := hmk
          rw [hmk] at HOK
          have HMK := Lib.hid hmk
          clear hmk hmo
          have HE := Lib.hid (rencode_any x y1 0 0 (n) (by omega) (by omega))
          have HRF := Lib.hid (rf_enc ⟨x, y1, 0, 0, n⟩ HOK.out)
          have hO2 := Lib.hid (hO.out.alloc (.cells #[.int .i64 x, .int .i64 y1, .int .i64 0, .int .i64 0, .int .u32 (n)] 35))
          have hB2 := Lib.hid (hB.out.alloc (by omega) (.cells #[.int .i64 x, .int .i64 y1, .int .i64 0, .int .i64 0, .int .u32 (n)] 35))
          go_wp2_with (first
            | (go_at_call 20; with_reducible refine (HO.out _).mono ?_; rintro e w1 ⟨rfl, rfl⟩; clear HO)
            | (go_at_call 28; with_reducible refine (HF.out _).mono ?_; rintro e w1 ⟨rfl, rfl⟩; clear HF)
            | (go_at_call 20; with_reducible refine (HD.out _).mono ?_; rintro e w1 ⟨rfl, rfl⟩; clear HD)
            | (go_at_call 27; with_reducible refine (HE.out _).mono ?_; rintro e w2 ⟨rfl, hoe, hbe⟩; have O2 := Lib.hid (own_below hO2.out hbe); have B2 := Lib.hid (hB2.out.trans (hbe.mono (by simp; omega))); have hr2 := Rd.of_own hoe; simp only [World.size_alloc] at hr2; have R2 := Lib.hid hr2; clear hr2; have hz2 := hbe.size; clear hoe hbe HE)
            | (at_builtin; refine wpList_app_rd rfl (.tmp 73) (.tmp 75) _ rfl w.heap.size 5 _ 1 1 Try.underlying31 Try.info_u8 rfl (by omega) (.slice A' (8 * k) c') (8 * k) _ rfl O2.out w2.heap.size _ 8 8 _ rfl R2.out (by rw [bv_length]; rfl) (bv_one _) (by unfold maxLen; omega) (by omega) (by simp at hz2; omega) ?_; intro A4 c4 w4 hx4; have O4 := Lib.hid hx4.own; have B4 := Lib.hid (B2.out.trans (hx4.below (by simp at hz2; omega) O2.out)); clear hx4))
          go_roundw
          case rel =>
            refine ⟨k + 1, A4, c4, by rw [show 8 * (k + 1) = 8 * k + 8 by omega], by go_num, by omega, by omega, ?_, B4⟩
            apply Lib.hid
            rw [HT.out, List.map_append, List.map_singleton, HMK.out, encs_append, encs_cons, encs_nil, List.append_nil, bv_append, show 8 * (k + 1) = 8 * k + 8 by omega, ← HRF.out]
            exact O4.out
          case measure => simp [intOf]; omega
        · simp only [if_true] at hmk
          have hmo := hmk
          rw [hmk] at HOK
          have HMK := Lib.hid hmk
          clear hmk hmo
          have HE := Lib.hid (rencode_any x y1 0 0 (n % 40) (by omega) (by omega))
          have HRF := Lib.hid (rf_enc ⟨x, y1, 0, 0, n % 40⟩ HOK.out)
          have hO2 := Lib.hid (hO.out.alloc (.cells #[.int .i64 x, .int .i64 y1, .int .i64 0, .int .i64 0, .int .u32 (n % 40)] 35))
          have hB2 := Lib.hid (hB.out.alloc (by omega) (.cells #[.int .i64 x, .int .i64 y1, .int .i64 0, .int .i64 0, .int .u32 (n % 40)] 35))
          go_wp2_with (first
            | (go_at_call 20; with_reducible refine (HO.out _).mono ?_; rintro e w1 ⟨rfl, rfl⟩; clear HO)
            | (go_at_call 28; with_reducible refine (HF.out _).mono ?_; rintro e w1 ⟨rfl, rfl⟩; clear HF)
            | (go_at_call 20; with_reducible refine (HD.out _).mono ?_; rintro e w1 ⟨rfl, rfl⟩; clear HD)
            | (go_at_call 27; with_reducible refine (HE.out _).mono ?_; rintro e w2 ⟨rfl, hoe, hbe⟩; have O2 := Lib.hid (own_below hO2.out hbe); have B2 := Lib.hid (hB2.out.trans (hbe.mono (by simp; omega))); have hr2 := Rd.of_own hoe; simp only [World.size_alloc] at hr2; have R2 := Lib.hid hr2; clear hr2; have hz2 := hbe.size; clear hoe hbe HE)
            | (at_builtin; refine wpList_app_rd rfl (.tmp 73) (.tmp 75) _ rfl w.heap.size 5 _ 1 1 Try.underlying31 Try.info_u8 rfl (by omega) (.slice A' (8 * k) c') (8 * k) _ rfl O2.out w2.heap.size _ 8 8 _ rfl R2.out (by rw [bv_length]; rfl) (bv_one _) (by unfold maxLen; omega) (by omega) (by simp at hz2; omega) ?_; intro A4 c4 w4 hx4; have O4 := Lib.hid hx4.own; have B4 := Lib.hid (B2.out.trans (hx4.below (by simp at hz2; omega) O2.out)); clear hx4))
          go_roundw
          case rel =>
            refine ⟨k + 1, A4, c4, by rw [show 8 * (k + 1) = 8 * k + 8 by omega], by go_num, by omega, by omega, ?_, B4⟩
            apply Lib.hid
            rw [HT.out, List.map_append, List.map_singleton, HMK.out, encs_append, encs_cons, encs_nil, List.append_nil, bv_append, show 8 * (k + 1) = 8 * k + 8 by omega, ← HRF.out]
            exact O4.out
          case measure => simp [intOf]; omega
      · rw [q1] at t1 hmk
        rw [q2] at t2 hmk
        rw [q3] at t3 hmk
        rw [q4] at t4 hmk
        simp only [kp, if_true, if_false, Bool.false_eq_true] at hmk
        clear q1 q2 q3 q4 x0 x1 HBB
        cases t
        · skip
          have hmo := hmk
          rw [hmk] at HOK
          have HMK := Lib.hid hmk
          clear hmk hmo
          have HE := Lib.hid (rencode_any x y1 y2 0 (0) (by omega) (by omega))
          have HRF := Lib.hid (rf_enc ⟨x, y1, y2, 0, 0⟩ HOK.out)
          have hO2 := Lib.hid (hO.out.alloc (.cells #[.int .i64 x, .int .i64 y1, .int .i64 y2, .int .i64 0, .int .u32 (0)] 35))
          have hB2 := Lib.hid (hB.out.alloc (by omega) (.cells #[.int .i64 x, .int .i64 y1, .int .i64 y2, .int .i64 0, .int .u32 (0)] 35))
          go_wp2_with (first
            | (go_at_call 20; with_reducible refine (HO.out _).mono ?_; rintro e w1 ⟨rfl, rfl⟩; clear HO)
            | (go_at_call 28; with_reducible refine (HF.out _).mono ?_; rintro e w1 ⟨rfl, rfl⟩; clear HF)
            | (go_at_call 20; with_reducible refine (HD.out _).mono ?_; rintro e w1 ⟨rfl, rfl⟩; clear HD)
            | (go_at_call 20; with_reducible refine (HA.out _).mono ?_; rintro e w1 ⟨rfl, rfl⟩; clear HA)
            | (go_at_call 27; with_reducible refine (HE.out _).mono ?_; rintro e w2 ⟨rfl, hoe, hbe⟩; have O2 := Lib.hid (own_below hO2.out hbe); have B2 := Lib.hid (hB2.out.trans (hbe.mono (by simp; omega))); have hr2 := Rd.of_own hoe; simp only [World.size_alloc] at hr2; have R2 := Lib.hid hr2; clear hr2; have hz2 := hbe.size; clear hoe hbe HE)
            | (at_builtin; refine wpList_app_rd rfl (.tmp 73) (.tmp 75) _ rfl w.heap.size 5 _ 1 1 Try.underlying31 Try.info_u8 rfl (by omega) (.slice A' (8 * k) c') (8 * k) _ rfl O2.out w2.heap.size _ 8 8 _ rfl R2.out (by rw [bv_length]; rfl) (bv_one _) (by unfold maxLen; omega) (by omega) (by simp at hz2; omega) ?_; intro A4 c4 w4 hx4; have O4 := Lib.hid hx4.own; have B4 := Lib.hid (B2.out.trans (hx4.below (by simp at hz2; omega) O2.out)); clear hx4))
          go_roundw
          case rel =>
            refine ⟨k + 1, A4, c4, by rw [show 8 * (k + 1) = 8 * k + 8 by omega], by go_num, by omega, by omega, ?_, B4⟩
            apply Lib.hid
            rw [HT.out, List.map_append, List.map_singleton, HMK.out, encs_append, encs_cons, encs_nil, List.append_nil, bv_append, show 8 * (k + 1) = 8 * k + 8 by omega, ← HRF.out]
            exact O4.out
          case measure => simp [intOf]; omega
        · skip
          have hmo := hmk
          rw [hmk] at HOK
          have HMK := Lib.hid hmk
          clear hmk hmo
          have HE := Lib.hid (rencode_any x y1 y2 0 (0) (by omega) (by omega))
          have HRF := Lib.hid (rf_enc ⟨x, y1, y2, 0, 0⟩ HOK.out)
          have hO2 := Lib.hid (hO.out.alloc (.cells #[.int .i64 x, .int .i64 y1, .int .i64 y2, .int .i64 0, .int .u32 (0)] 35))
          have hB2 := Lib.hid (hB.out.alloc (by omega) (.cells #[.int .i64 x, .int .i64 y1, .int .i64 y2, .int .i64 0, .int .u32 (0)] 35))
          go_wp2_with (first
            | (go_at_call 20; with_reducible refine (HO.out _).mono ?_; rintro e w1 ⟨rfl, rfl⟩; clear HO)
            | (go_at_call 28; with_reducible refine (HF.out _).mono ?_; rintro e w1 ⟨rfl, rfl⟩; clear HF)
            | (go_at_call 20; with_reducible refine (HD.out _).mono ?_; rintro e w1 ⟨rfl, rfl⟩; clear HD)
            | (go_at_call 20; with_reducible refine (HA.out _).mono ?_; rintro e w1 ⟨rfl, rfl⟩; clear HA)
            | (go_at_call 27; with_reducible refine (HE.out _).mono ?_; rintro e w2 ⟨rfl, hoe, hbe⟩; have O2 := Lib.hid (own_below hO2.out hbe); have B2 := Lib.hid (hB2.out.trans (hbe.mono (by simp; omega))); have hr2 := Rd.of_own hoe; simp only [World.size_alloc] at hr2; have R2 := Lib.hid hr2; clear hr2; have hz2 := hbe.size; clear hoe hbe HE)
            | (at_builtin; refine wpList_app_rd rfl (.tmp 73) (.tmp 75) _ rfl w.heap.size 5 _ 1 1 Try.underlying31 Try.info_u8 rfl (by omega) (.slice A' (8 * k) c') (8 * k) _ rfl O2.out w2.heap.size _ 8 8 _ rfl R2.out (by rw [bv_length]; rfl) (bv_one _) (by unfold maxLen; omega) (by omega) (by simp at hz2; omega) ?_; intro A4 c4 w4 hx4; have O4 := Lib.hid hx4.own; have B4 := Lib.hid (B2.out.trans (hx4.below (by simp at hz2; omega) O2.out)); clear hx4))
          go_roundw
          case rel =>
            refine ⟨k + 1, A4, c4, by rw [show 8 * (k + 1) = 8 * k + 8 by omega], by go_num, by omega, by omega, ?_, B4⟩
            apply Lib.hid
            rw [HT.out, List.map_append, List.map_singleton, HMK.out, encs_append, encs_cons, encs_nil, List.append_nil, bv_append, show 8 * (k + 1) = 8 * k + 8 by omega, ← HRF.out]
            exact O4.out
          case measure => simp [intOf]; omega
      · rw [q1] at t1 hmk
        rw [q2] at t2 hmk
        rw [q3] at t3 hmk
        rw [q4] at t4 hmk
        simp only [kp, if_true, if_false, Bool.false_eq_true] at hmk
        clear q1 q2 q3 q4 x0 x1
        cases t
        · skip
          have hmo := hmk
          rw [hmk] at HOK
          have HMK := Lib.hid hmk
          clear hmk hmo
          have HE := Lib.hid (rencode_any x y1 y2 y3 (0) (by omega) (by omega))
          have HRF := Lib.hid (rf_enc ⟨x, y1, y2, y3, 0⟩ HOK.out)
          have hO2 := Lib.hid (hO.out.alloc (.cells #[.int .i64 x, .int .i64 y1, .int .i64 y2, .int .i64 y3, .int .u32 (0)] 35))
          have hB2 := Lib.hid (hB.out.alloc (by omega) (.cells #[.int .i64 x, .int .i64 y1, .int .i64 y2, .int .i64 y3, .int .u32 (0)] 35))
          go_wp2_with (first
            | (go_at_call 20; with_reducible refine (HO.out _).mono ?_; rintro e w1 ⟨rfl, rfl⟩; clear HO)
            | (go_at_call 28; with_reducible refine (HF.out _).mono ?_; rintro e w1 ⟨rfl, rfl⟩; clear HF)
            | (go_at_call 20; with_reducible refine (HD.out _).mono ?_; rintro e w1 ⟨rfl, rfl⟩; clear HD)
            | (go_at_call 20; with_reducible refine (HA.out _).mono ?_; rintro e w1 ⟨rfl, rfl⟩; clear HA)
            | (go_at_call 20; with_reducible refine (HBB.out _).mono ?_; rintro e w1 ⟨rfl, rfl⟩; clear HBB)
            | (go_at_call 27; with_reducible refine (HE.out _).mono ?_; rintro e w2 ⟨rfl, hoe, hbe⟩; have O2 := Lib.hid (own_below hO2.out hbe); have B2 := Lib.hid (hB2.out.trans (hbe.mono (by simp; omega))); have hr2 := Rd.of_own hoe; simp only [World.size_alloc] at hr2; have R2 := Lib.hid hr2; clear hr2; have hz2 := hbe.size; clear hoe hbe HE)
            | (at_builtin; refine wpList_app_rd rfl (.tmp 73) (.tmp 75) _ rfl w.heap.size 5 _ 1 1 Try.underlying31 Try.info_u8 rfl (by omega) (.slice A' (8 * k) c') (8 * k) _ rfl O2.out w2.heap.size _ 8 8 _ rfl R2.out (by rw [bv_length]; rfl) (bv_one _) (by unfold maxLen; omega) (by omega) (by simp at hz2; omega) ?_; intro A4 c4 w4 hx4; have O4 := Lib.hid hx4.own; have B4 := Lib.hid (B2.out.trans (hx4.below (by simp at hz2; omega) O2.out)); clear hx4))
          go_roundw
          case rel =>
            refine ⟨k + 1, A4, c4, by rw [show 8 * (k + 1) = 8 * k + 8 by omega], by go_num, by omega, by omega, ?_, B4⟩
            apply Lib.hid
            rw [HT.out, List.map_append, List.map_singleton, HMK.out, encs_append, encs_cons, encs_nil, List.append_nil, bv_append, show 8 * (k + 1) = 8 * k + 8 by omega, ← HRF.out]
            exact O4.out
          case measure => simp [intOf]; omega
        · skip
          have hmo := hmk
          rw [hmk] at HOK
          have HMK := Lib.hid hmk
          clear hmk hmo
          have HE := Lib.hid (rencode_any x y1 y2 y3 (0) (by omega) (by omega))
          have HRF := Lib.hid (rf_enc ⟨x, y1, y2, y3, 0⟩ HOK.out)
          have hO2 := Lib.hid (hO.out.alloc (.cells #[.int .i64 x, .int .i64 y1, .int .i64 y2, .int .i64 y3, .int .u32 (0)] 35))
          have hB2 := Lib.hid (hB.out.alloc (by omega) (.cells #[.int .i64 x, .int .i64 y1, .int .i64 y2, .int .i64 y3, .int .u32 (0)] 35))
          go_wp2_with (first
            | (go_at_call 20; with_reducible refine (HO.out _).mono ?_; rintro e w1 ⟨rfl, rfl⟩; clear HO)
            | (go_at_call 28; with_reducible refine (HF.out _).mono ?_; rintro e w1 ⟨rfl, rfl⟩; clear HF)
            | (go_at_call 20; with_reducible refine (HD.out _).mono ?_; rintro e w1 ⟨rfl, rfl⟩; clear HD)
            | (go_at_call 20; with_reducible refine (HA.out _).mono ?_; rintro e w1 ⟨rfl, rfl⟩; clear HA)
            | (go_at_call 20; with_reducible refine (HBB.out _).mono ?_; rintro e w1 ⟨rfl, rfl⟩; clear HBB)
            | (go_at_call 27; with_reducible refine (HE.out _).mono ?_; rintro e w2 ⟨rfl, hoe, hbe⟩; have O2 := Lib.hid (own_below hO2.out hbe); have B2 := Lib.hid (hB2.out.trans (hbe.mono (by simp; omega))); have hr2 := Rd.of_own hoe; simp only [World.size_alloc] at hr2; have R2 := Lib.hid hr2; clear hr2; have hz2 := hbe.size; clear hoe hbe HE)
            | (at_builtin; refine wpList_app_rd rfl (.tmp 73) (.tmp 75) _ rfl w.heap.size 5 _ 1 1 Try.underlying31 Try.info_u8 rfl (by omega) (.slice A' (8 * k) c') (8 * k) _ rfl O2.out w2.heap.size _ 8 8 _ rfl R2.out (by rw [bv_length]; rfl) (bv_one _) (by unfold maxLen; omega) (by omega) (by simp at hz2; omega) ?_; intro A4 c4 w4 hx4; have O4 := Lib.hid hx4.own; have B4 := Lib.hid (B2.out.trans (hx4.below (by simp at hz2; omega) O2.out)); clear hx4))
          go_roundw
          case rel =>
            refine ⟨k + 1, A4, c4, by rw [show 8 * (k + 1) = 8 * k + 8 by omega], by go_num, by omega, by omega, ?_, B4⟩
            apply Lib.hid
            rw [HT.out, List.map_append, List.map_singleton, HMK.out, encs_append, encs_cons, encs_nil, List.append_nil, bv_append, show 8 * (k + 1) = 8 * k + 8 by omega, ← HRF.out]
            exact O4.out
          case measure => simp [intOf]; omega
      · rw [q1] at t1 hmk
        rw [q2] at t2 hmk
        rw [q3] at t3 hmk
        rw [q4] at t4 hmk
        simp only [kp, if_true, if_false, Bool.false_eq_true] at hmk
        clear q1 q2 q3 q4 x0 x1 HBB
        cases t
        · simp only [Bool.false_eq_true, if_false] at hmk
          have hmo := hmk
          rw [hmk] at HOK
          have HMK := Lib.hid hmk
          clear hmk hmo
          have HE := Lib.hid (rencode_any x y1 y2 0 (n) (by omega) (by omega))
          have HRF := Lib.hid (rf_enc ⟨x, y1, y2, 0, n⟩ HOK.out)
          have hO2 := Lib.hid (hO.out.alloc (.cells #[.int .i64 x, .int .i64 y1, .int .i64 y2, .int .i64 0, .int .u32 (n)] 35))
          have hB2 := Lib.hid (hB.out.alloc (by omega) (.cells #[.int .i64 x, .int .i64 y1, .int .i64 y2, .int .i64 0, .int .u32 (n)] 35))
          go_wp2_with (first
            | (go_at_call 20; with_reducible refine (HO.out _).mono ?_; rintro e w1 ⟨rfl, rfl⟩; clear HO)
            | (go_at_call 28; with_reducible refine (HF.out _).mono ?_; rintro e w1 ⟨rfl, rfl⟩; clear HF)
            | (go_at_call 20; with_reducible refine (HD.out _).mono ?_; rintro e w1 ⟨rfl, rfl⟩; clear HD)
            | (go_at_call 20; with_reducible refine (HA.out _).mono ?_; rintro e w1 ⟨rfl, rfl⟩; clear HA)
            | (go_at_call 27; with_reducible refine (HE.out _).mono ?_; rintro e w2 ⟨rfl, hoe, hbe⟩; have O2 := Lib.hid (own_below hO2.out hbe); have B2 := Lib.hid (hB2.out.trans (hbe.mono (by simp; omega))); have hr2 := Rd.of_own hoe; simp only [World.size_alloc] at hr2; have R2 := Lib.hid hr2; clear hr2; have hz2 := hbe.size; clear hoe hbe HE)
            | (at_builtin; refine wpList_app_rd rfl (.tmp 73) (.tmp 75) _ rfl w.heap.size 5 _ 1 1 Try.underlying31 Try.info_u8 rfl (by omega) (.slice A' (8 * k) c') (8 * k) _ rfl O2.out w2.heap.size _ 8 8 _ rfl R2.out (by rw [bv_length]; rfl) (bv_one _) (by unfold maxLen; omega) (by omega) (by simp at hz2; omega) ?_; intro A4 c4 w4 hx4; have O4 := Lib.hid hx4.own; have B4 := Lib.hid (B2.out.trans (hx4.below (by simp at hz2; omega) O2.out)); clear hx4))
          go_roundw
          case rel =>
            refine ⟨k + 1, A4, c4, by rw [show 8 * (k + 1) = 8 * k + 8 by omega], by go_num, by omega, by omega, ?_, B4⟩
            apply Lib.hid
            rw [HT.out, List.map_append, List.map_singleton, HMK.out, encs_append, encs_cons, encs_nil, List.append_nil, bv_append, show 8 * (k + 1) = 8 * k + 8 by omega, ← HRF.out]
            exact O4.out
          case measure => simp [intOf]; omega
        · simp only [if_true] at hmk
          have hmo := hmk
          rw [hmk] at HOK
          have HMK := Lib.hid hmk
          clear hmk hmo
          have HE := Lib.hid (rencode_any x y1 y2 0 (n % 40) (by omega) (by omega))
          have HRF := Lib.hid (rf_enc ⟨x, y1, y2, 0, n % 40⟩ HOK.out)
          have hO2 := Lib.hid (hO.out.alloc (.cells #[.int .i64 x, .int .i64 y1, .int .i64 y2, .int .i64 0, .int .u32 (n % 40)] 35))
          have hB2 := Lib.hid (hB.out.alloc (by omega) (.cells #[.int .i64 x, .int .i64 y1, .int .i64 y2, .int .i64 0, .int .u32 (n % 40)] 35))
          go_wp2_with (first
            | (go_at_call 20; with_reducible refine (HO.out _).mono ?_; rintro e w1 ⟨rfl, rfl⟩; clear HO)
            | (go_at_call 28; with_reducible refine (HF.out _).mono ?_; rintro e w1 ⟨rfl, rfl⟩; clear HF)
            | (go_at_call 20; with_reducible refine (HD.out _).mono ?_; rintro e w1 ⟨rfl, rfl⟩; clear HD)
            | (go_at_call 20; with_reducible refine (HA.out _).mono ?_; rintro e w1 ⟨rfl, rfl⟩; clear HA)
            | (go_at_call 27; with_reducible refine (HE.out _).mono ?_; rintro e w2 ⟨rfl, hoe, hbe⟩; have O2 := Lib.hid (own_below hO2.out hbe); have B2 := Lib.hid (hB2.out.trans (hbe.mono (by simp; omega))); have hr2 := Rd.of_own hoe; simp only [World.size_alloc] at hr2; have R2 := Lib.hid hr2; clear hr2; have hz2 := hbe.size; clear hoe hbe HE)
            | (at_builtin; refine wpList_app_rd rfl (.tmp 73) (.tmp 75) _ rfl w.heap.size 5 _ 1 1 Try.underlying31 Try.info_u8 rfl (by omega) (.slice A' (8 * k) c') (8 * k) _ rfl O2.out w2.heap.size _ 8 8 _ rfl R2.out (by rw [bv_length]; rfl) (bv_one _) (by unfold maxLen; omega) (by omega) (by simp at hz2; omega) ?_; intro A4 c4 w4 hx4; have O4 := Lib.hid hx4.own; have B4 := Lib.hid (B2.out.trans (hx4.below (by simp at hz2; omega) O2.out)); clear hx4))
          go_roundw
          case rel =>
            refine ⟨k + 1, A4, c4, by rw [show 8 * (k + 1) = 8 * k + 8 by omega], by go_num, by omega, by omega, ?_, B4⟩
            apply Lib.hid
            rw [HT.out, List.map_append, List.map_singleton, HMK.out, encs_append, encs_cons, encs_nil, List.append_nil, bv_append, show 8 * (k + 1) = 8 * k + 8 by omega, ← HRF.out]
            exact O4.out
          case measure => simp [intOf]; omega
      · rw [q1] at t1 hmk
        rw [q2] at t2 hmk
        rw [q3] at t3 hmk
        rw [q4] at t4 hmk
        simp only [kp, if_true, if_false, Bool.false_eq_true] at hmk
        clear q1 q2 q3 q4 x0 x1 HD
        cases t
        · simp only [Bool.false_eq_true, if_false] at hmk
          have hmo := hmk
          rw [hmk] at HOK
          have HMK := Lib.hid hmk
          clear hmk hmo
          have HE := Lib.hid (rencode_any x 0 y2 y3 (n) (by omega) (by omega))
          have HRF := Lib.hid (rf_enc ⟨x, 0, y2, y3, n⟩ HOK.out)
          have hO2 := Lib.hid (hO.out.alloc (.cells #[.int .i64 x, .int .i64 0, .int .i64 y2, .int .i64 y3, .int .u32 (n)] 35))
          have hB2 := Lib.hid (hB.out.alloc (by omega) (.cells #[.int .i64 x, .int .i64 0, .int .i64 y2, .int .i64 y3, .int .u32 (n)] 35))
          go_wp2_with (first
            | (go_at_call 20; with_reducible refine (HO.out _).mono ?_; rintro e w1 ⟨rfl, rfl⟩; clear HO)
            | (go_at_call 28; with_reducible refine (HF.out _).mono ?_; rintro e w1 ⟨rfl, rfl⟩; clear HF)
            | (go_at_call 20; with_reducible refine (HA.out _).mono ?_; rintro e w1 ⟨rfl, rfl⟩; clear HA)
            | (go_at_call 20; with_reducible refine (HBB.out _).mono ?_; rintro e w1 ⟨rfl, rfl⟩; clear HBB)
            | (go_at_call 27; with_reducible refine (HE.out _).mono ?_; rintro e w2 ⟨rfl, hoe, hbe⟩; have O2 := Lib.hid (own_below hO2.out hbe); have B2 := Lib.hid (hB2.out.trans (hbe.mono (by simp; omega))); have hr2 := Rd.of_own hoe; simp only [World.size_alloc] at hr2; have R2 := Lib.hid hr2; clear hr2; have hz2 := hbe.size; clear hoe hbe HE)
            | (at_builtin; refine wpList_app_rd rfl (.tmp 73) (.tmp 75) _ rfl w.heap.size 5 _ 1 1 Try.underlying31 Try.info_u8 rfl (by omega) (.slice A' (8 * k) c') (8 * k) _ rfl O2.out w2.heap.size _ 8 8 _ rfl R2.out (by rw [bv_length]; rfl) (bv_one _) (by unfold maxLen; omega) (by omega) (by simp at hz2; omega) ?_; intro A4 c4 w4 hx4; have O4 := Lib.hid hx4.own; have B4 := Lib.hid (B2.out.trans (hx4.below (by simp at hz2; omega) O2.out)); clear hx4))
          go_roundw
          case rel =>
            refine ⟨k + 1, A4, c4, by rw [show 8 * (k + 1) = 8 * k + 8 by omega], by go_num, by omega, by omega, ?_, B4⟩
            apply Lib.hid
            rw [HT.out, List.map_append, List.map_singleton, HMK.out, encs_append, encs_cons, encs_nil, List.append_nil, bv_append, show 8 * (k + 1) = 8 * k + 8 by omega, ← HRF.out]
            exact O4.out
          case measure => simp [intOf]; omega
        · simp only [if_true] at hmk
          have hmo := hmk
          rw [hmk] at HOK
          have HMK := Lib.hid hmk
          clear hmk hmo
          have HE := Lib.hid (rencode_any x 0 y2 y3 (n % 40) (by omega) (by omega))
          have HRF := Lib.hid (rf_enc ⟨x, 0, y2, y3, n % 40⟩ HOK.out)
          have hO2 := Lib.hid (hO.out.alloc (.cells #[.int .i64 x, .int .i64 0, .int .i64 y2, .int .i64 y3, .int .u32 (n % 40)] 35))
          have hB2 := Lib.hid (hB.out.alloc (by omega) (.cells #[.int .i64 x, .int .i64 0, .int .i64 y2, .int .i64 y3, .int .u32 (n % 40)] 35))
          go_wp2_with (first
            | (go_at_call 20; with_reducible refine (HO.out _).mono ?_; rintro e w1 ⟨rfl, rfl⟩; clear HO)
            | (go_at_call 28; with_reducible refine (HF.out _).mono ?_; rintro e w1 ⟨rfl, rfl⟩; clear HF)
            | (go_at_call 20; with_reducible refine (HA.out _).mono ?_; rintro e w1 ⟨rfl, rfl⟩; clear HA)
            | (go_at_call 20; with_reducible refine (HBB.out _).mono ?_; rintro e w1 ⟨rfl, rfl⟩; clear HBB)
            | (go_at_call 27; with_reducible refine (HE.out _).mono ?_; rintro e w2 ⟨rfl, hoe, hbe⟩; have O2 := Lib.hid (own_below hO2.out hbe); have B2 := Lib.hid (hB2.out.trans (hbe.mono (by simp; omega))); have hr2 := Rd.of_own hoe; simp only [World.size_alloc] at hr2; have R2 := Lib.hid hr2; clear hr2; have hz2 := hbe.size; clear hoe hbe HE)
            | (at_builtin; refine wpList_app_rd rfl (.tmp 73) (.tmp 75) _ rfl w.heap.size 5 _ 1 1 Try.underlying31 Try.info_u8 rfl (by omega) (.slice A' (8 * k) c') (8 * k) _ rfl O2.out w2.heap.size _ 8 8 _ rfl R2.out (by rw [bv_length]; rfl) (bv_one _) (by unfold maxLen; omega) (by omega) (by simp at hz2; omega) ?_; intro A4 c4 w4 hx4; have O4 := Lib.hid hx4.own; have B4 := Lib.hid (B2.out.trans (hx4.below (by simp at hz2; omega) O2.out)); clear hx4))
          go_roundw
          case rel =>
            refine ⟨k + 1, A4, c4, by rw [show 8 * (k + 1) = 8 * k + 8 by omega], by go_num, by omega, by omega, ?_, B4⟩
            apply Lib.hid
            rw [HT.out, List.map_append, List.map_singleton, HMK.out, encs_append, encs_cons, encs_nil, List.append_nil, bv_append, show 8 * (k + 1) = 8 * k + 8 by omega, ← HRF.out]
            exact O4.out
          case measure => simp [intOf]; omega
      · rw [q1] at t1 hmk
        rw [q2] at t2 hmk
        rw [q3] at t3 hmk
        rw [q4] at t4 hmk
        simp only [kp, if_true, if_false, Bool.false_eq_true] at hmk
        clear q1 q2 q3 q4 x0 x1 HD HBB
        cases t
        · simp only [Bool.false_eq_true, if_false] at hmk
          have hmo := hmk
          rw [hmk] at HOK
          have HMK := Lib.hid hmk
          clear hmk hmo
          have HE := Lib.hid (rencode_any x 0 y2 0 (n) (by omega) (by omega))
          have HRF := Lib.hid (rf_enc ⟨x, 0, y2, 0, n⟩ HOK.out)
          have hO2 := Lib.hid (hO.out.alloc (.cells #[.int .i64 x, .int .i64 0, .int .i64 y2, .int .i64 0, .int .u32 (n)] 35))
          have hB2 := Lib.hid (hB.out.alloc (by omega) (.cells #[.int .i64 x, .int .i64 0, .int .i64 y2, .int .i64 0, .int .u32 (n)] 35))
          go_wp2_with (first
            | (go_at_call 20; with_reducible refine (HO.out _).mono ?_; rintro e w1 ⟨rfl, rfl⟩; clear HO)
            | (go_at_call 28; with_reducible refine (HF.out _).mono ?_; rintro e w1 ⟨rfl, rfl⟩; clear HF)
            | (go_at_call 20; with_reducible refine (HA.out _).mono ?_; rintro e w1 ⟨rfl, rfl⟩; clear HA)
            | (go_at_call 27; with_reducible refine (HE.out _).mono ?_; rintro e w2 ⟨rfl, hoe, hbe⟩; have O2 := Lib.hid (own_below hO2.out hbe); have B2 := Lib.hid (hB2.out.trans (hbe.mono (by simp; omega))); have hr2 := Rd.of_own hoe; simp only [World.size_alloc] at hr2; have R2 := Lib.hid hr2; clear hr2; have hz2 := hbe.size; clear hoe hbe HE)
            | (at_builtin; refine wpList_app_rd rfl (.tmp 73) (.tmp 75) _ rfl w.heap.size 5 _ 1 1 Try.underlying31 Try.info_u8 rfl (by omega) (.slice A' (8 * k) c') (8 * k) _ rfl O2.out w2.heap.size _ 8 8 _ rfl R2.out (by rw [bv_length]; rfl) (bv_one _) (by unfold maxLen; omega) (by omega) (by simp at hz2; omega) ?_; intro A4 c4 w4 hx4; have O4 := Lib.hid hx4.own; have B4 := Lib.hid (B2.out.trans (hx4.below (by simp at hz2; omega) O2.out)); clear hx4))
          go_roundw
          case rel =>
            refine ⟨k + 1, A4, c4, by rw [show 8 * (k + 1) = 8 * k + 8 by omega], by go_num, by omega, by omega, ?_, B4⟩
            apply Lib.hid
            rw [HT.out, List.map_append, List.map_singleton, HMK.out, encs_append, encs_cons, encs_nil, List.append_nil, bv_append, show 8 * (k + 1) = 8 * k + 8 by omega, ← HRF.out]
            exact O4.out
          case measure => simp [intOf]; omega
        · simp only [if_true] at hmk
          have hmo := hmk
          rw [hmk] at HOK
          have HMK := Lib.hid hmk
          clear hmk hmo
          have HE := Lib.hid (rencode_any x 0 y2 0 (n % 40) (by omega) (by omega))
          have HRF := Lib.hid (rf_enc ⟨x, 0, y2, 0, n % 40⟩ HOK.out)
          have hO2 := Lib.hid (hO.out.alloc (.cells #[.int .i64 x, .int .i64 0, .int .i64 y2, .int .i64 0, .int .u32 (n % 40)] 35))
          have hB2 := Lib.hid (hB.out.alloc (by omega) (.cells #[.int .i64 x, .int .i64 0, .int .i64 y2, .int .i64 0, .int .u32 (n % 40)] 35))
          go_wp2_with (first
            | (go_at_call 20; with_reducible refine (HO.out _).mono ?_; rintro e w1 ⟨rfl, rfl⟩; clear HO)
            | (go_at_call 28; with_reducible refine (HF.out _).mono ?_; rintro e w1 ⟨rfl, rfl⟩; clear HF)
            | (go_at_call 20; with_reducible refine (HA.out _).mono ?_; rintro e w1 ⟨rfl, rfl⟩; clear HA)
            | (go_at_call 27; with_reducible refine (HE.out _).mono ?_; rintro e w2 ⟨rfl, hoe, hbe⟩; have O2 := Lib.hid (own_below hO2.out hbe); have B2 := Lib.hid (hB2.out.trans (hbe.mono (by simp; omega))); have hr2 := Rd.of_own hoe; simp only [World.size_alloc] at hr2; have R2 := Lib.hid hr2; clear hr2; have hz2 := hbe.size; clear hoe hbe HE)
            | (at_builtin; refine wpList_app_rd rfl (.tmp 73) (.tmp 75) _ rfl w.heap.size 5 _ 1 1 Try.underlying31 Try.info_u8 rfl (by omega) (.slice A' (8 * k) c') (8 * k) _ rfl O2.out w2.heap.size _ 8 8 _ rfl R2.out (by rw [bv_length]; rfl) (bv_one _) (by unfold maxLen; omega) (by omega) (by simp at hz2; omega) ?_; intro A4 c4 w4 hx4; have O4 := Lib.hid hx4.own; have B4 := Lib.hid (B2.out.trans (hx4.below (by simp at hz2; omega) O2.out)); clear hx4))
          go_roundw
          case rel =>
            refine ⟨k + 1, A4, c4, by rw [show 8 * (k + 1) = 8 * k + 8 by omega], by go_num, by omega, by omega, ?_, B4⟩
            apply Lib.hid
            rw [HT.out, List.map_append, List.map_singleton, HMK.out, encs_append, encs_cons, encs_nil, List.append_nil, bv_append, show 8 * (k + 1) = 8 * k + 8 by omega, ← HRF.out]
            exact O4.out
          case measure => simp [intOf]; omega
      · rw [q1] at t1 hmk
        rw [q2] at t2 hmk
        rw [q3] at t3 hmk
        rw [q4] at t4 hmk
        simp only [kp, if_true, if_false, Bool.false_eq_true] at hmk
        clear q1 q2 q3 q4 x0 x1 HD HA HBB
        cases t
        · simp only [Bool.false_eq_true, if_false] at hmk
          have hmo := hmk
          rw [hmk] at HOK
          have HMK := Lib.hid hmk
          clear hmk hmo
          have HE := Lib.hid (rencode_any x 0 0 0 (n) (by omega) (by omega))
          have HRF := Lib.hid (rf_enc ⟨x, 0, 0, 0, n⟩ HOK.out)
          have hO2 := Lib.hid (hO.out.alloc (.cells #[.int .i64 x, .int .i64 0, .int .i64 0, .int .i64 0, .int .u32 (n)] 35))
          have hB2 := Lib.hid (hB.out.alloc (by omega) (.cells #[.int .i64 x, .int .i64 0, .int .i64 0, .int .i64 0, .int .u32 (n)] 35))
          go_wp2_with (first
            | (go_at_call 20; with_reducible refine (HO.out _).mono ?_; rintro e w1 ⟨rfl, rfl⟩; clear HO)
            | (go_at_call 28; with_reducible refine (HF.out _).mono ?_; rintro e w1 ⟨rfl, rfl⟩; clear HF)
            | (go_at_call 27; with_reducible refine (HE.out _).mono ?_; rintro e w2 ⟨rfl, hoe, hbe⟩; have O2 := Lib.hid (own_below hO2.out hbe); have B2 := Lib.hid (hB2.out.trans (hbe.mono (by simp; omega))); have hr2 := Rd.of_own hoe; simp only [World.size_alloc] at hr2; have R2 := Lib.hid hr2; clear hr2; have hz2 := hbe.size; clear hoe hbe HE)
            | (at_builtin; refine wpList_app_rd rfl (.tmp 73) (.tmp 75) _ rfl w.heap.size 5 _ 1 1 Try.underlying31 Try.info_u8 rfl (by omega) (.slice A' (8 * k) c') (8 * k) _ rfl O2.out w2.heap.size _ 8 8 _ rfl R2.out (by rw [bv_length]; rfl) (bv_one _) (by unfold maxLen; omega) (by omega) (by simp at hz2; omega) ?_; intro A4 c4 w4 hx4; have O4 := Lib.hid hx4.own; have B4 := Lib.hid (B2.out.trans (hx4.below (by simp at hz2; omega) O2.out)); clear hx4))
          go_roundw
          case rel =>
            refine ⟨k + 1, A4, c4, by rw [show 8 * (k + 1) = 8 * k + 8 by omega], by go_num, by omega, by omega, ?_, B4⟩
            apply Lib.hid
            rw [HT.out, List.map_append, List.map_singleton, HMK.out, encs_append, encs_cons, encs_nil, List.append_nil, bv_append, show 8 * (k + 1) = 8 * k + 8 by omega, ← HRF.out]
            exact O4.out
          case measure => simp [intOf]; omega
        · simp only [if_true] at hmk
          have hmo := hmk
          rw [hmk] at HOK
          have HMK := Lib.hid hmk
          clear hmk hmo
          have HE := Lib.hid (rencode_any x 0 0 0 (n % 40) (by omega) (by omega))
          have HRF := Lib.hid (rf_enc ⟨x, 0, 0, 0, n % 40⟩ HOK.out)
          have hO2 := Lib.hid (hO.out.alloc (.cells #[.int .i64 x, .int .i64 0, .int .i64 0, .int .i64 0, .int .u32 (n % 40)] 35))
          have hB2 := Lib.hid (hB.out.alloc (by omega) (.cells #[.int .i64 x, .int .i64 0, .int .i64 0, .int .i64 0, .int .u32 (n % 40)] 35))
          go_wp2_with (first
            | (go_at_call 20; with_reducible refine (HO.out _).mono ?_; rintro e w1 ⟨rfl, rfl⟩; clear HO)
            | (go_at_call 28; with_reducible refine (HF.out _).mono ?_; rintro e w1 ⟨rfl, rfl⟩; clear HF)
            | (go_at_call 27; with_reducible refine (HE.out _).mono ?_; rintro e w2 ⟨rfl, hoe, hbe⟩; have O2 := Lib.hid (own_below hO2.out hbe); have B2 := Lib.hid (hB2.out.trans (hbe.mono (by simp; omega))); have hr2 := Rd.of_own hoe; simp only [World.size_alloc] at hr2; have R2 := Lib.hid hr2; clear hr2; have hz2 := hbe.size; clear hoe hbe HE)
            | (at_builtin; refine wpList_app_rd rfl (.tmp 73) (.tmp 75) _ rfl w.heap.size 5 _ 1 1 Try.underlying31 Try.info_u8 rfl (by omega) (.slice A' (8 * k) c') (8 * k) _ rfl O2.out w2.heap.size _ 8 8 _ rfl R2.out (by rw [bv_length]; rfl) (bv_one _) (by unfold maxLen; omega) (by omega) (by simp at hz2; omega) ?_; intro A4 c4 w4 hx4; have O4 := Lib.hid hx4.own; have B4 := Lib.hid (B2.out.trans (hx4.below (by simp at hz2; omega) O2.out)); clear hx4))
          go_roundw
          case rel =>
            refine ⟨k + 1, A4, c4, by rw [show 8 * (k + 1) = 8 * k + 8 by omega], by go_num, by omega, by omega, ?_, B4⟩
            apply Lib.hid
            rw [HT.out, List.map_append, List.map_singleton, HMK.out, encs_append, encs_cons, encs_nil, List.append_nil, bv_append, show 8 * (k + 1) = 8 * k + 8 by omega, ← HRF.out]
            exact O4.out
          case measure => simp [intOf]; omega
    · have hmin : (md4s t L).length = k := by simp [md4s]; omega
      have hall : md4s t L = (L.take k).map (md4 t) := by
        unfold md4s
        by_cases h30 : k = 30
        · rw [h30]
        · rw [show k = L.length by omega, List.take_length, List.take_of_length_le (by omega)]
      have HALL := Lib.hid hall
      have HMIN := Lib.hid hmin
      have hend : L.length ≤ k ∨ (k < L.length ∧ 30 ≤ k) := by omega
      clear hall hmin hgo
      rcases hend with g1 | ⟨g1, g2⟩
      all_goals
        go_wp2_with fail
        go_ret
        refine ⟨A', c', by rw [HMIN.out]; rfl, ?_, hB.out⟩
        rw [HMIN.out, HALL.out]
        exact hO.out
end Go.Proofs.Ytaghblcboimbpaa

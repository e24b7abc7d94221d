/-
  innkeeperlaw9.TlbNumbers returns true: its walk.
-/
import Derived.Test.YtblfplhiamcpoaaWalkTlbPlays
namespace Go.Proofs.Ytblfplhiamcpoaa
open Go.RowKit
set_option linter.unusedSimpArgs false
set_option linter.unusedVariables false

/-- the cells of some calls -/
def celQ : List Av → List Value
  | [] => []
  | q :: r => q.cs ++ celQ r
theorem celQ_get : ∀ (L : List Av) (i : Nat) (h : i < L.length) (j : Nat), j < 6 → (celQ L)[i * 6 + j]? = (L[i]).cs[j]?
  | q :: r, 0, _, j, hj => by rw [celQ, Nat.zero_mul, Nat.zero_add, List.getElem?_append_left (by simpa [Av.cs] using hj)]; rfl
  | q :: r, i + 1, h, j, hj => by
    have hl : q.cs.length = 6 := rfl
    rw [celQ, List.getElem?_append_right (by rw [hl]; omega), hl, show (i + 1) * 6 + j - 6 = i * 6 + j by omega]
    exact celQ_get r i (by simpa using h) j hj
/-- the closed sentence's calls, B being the bits -/
def nq (B : Int) : List Av := [⟨1, 1, 192, 7, B, false⟩, ⟨0, 0, 255, 0, 0, false⟩, ⟨0, 0, 1216, 0, 0, false⟩, ⟨1, 1, 4294967295, 4294967295, B, false⟩, ⟨2, 0, 1216, 0, 0, false⟩, ⟨2, 0, 192, 0, 0, false⟩, ⟨1, 5, 64, 0, 0, false⟩, ⟨3, 0, 0, 0, 0, false⟩, ⟨0, 0, 0, 0, 0, false⟩]
theorem nq_in (B : Int) (h0 : 0 ≤ B) (h1 : B < 128) : ∀ q ∈ nq B, (0 ≤ q.va ∧ q.va < 4294967296) ∧ (0 ≤ q.p ∧ q.p < 4294967296) ∧ (0 ≤ q.b ∧ q.b < 4294967296) := by
  intro q hq
  simp only [nq, List.mem_cons, List.not_mem_nil, or_false] at hq
  rcases hq with rfl | rfl | rfl | rfl | rfl | rfl | rfl | rfl | rfl <;> simp <;> omega
def NRow (X : Nat) (B : Int) (w : World) : Prop := X < w.heap.size ∧ ∀ (i : Nat) (h : i < (nq B).length) (j : Nat) (u : Value), ((nq B)[i]).cs[j]? = some u → w.cell? ⟨X, i * 6 + j, none⟩ = some u
theorem NRow.new (w : World) (t : TypeId) (B : Int) : NRow w.heap.size B (w.alloc (.cells (celQ (nq B)).toArray t)) := by
  refine ⟨by simp, fun i h j u hu => ?_⟩
  have hj : j < 6 := (List.getElem?_eq_some_iff.1 hu).1
  rw [(Blk.new w t _).cell, List.getElem?_toArray, celQ_get _ i h j hj, hu]
theorem NRow.turn {X : Nat} {B : Int} {w w' : World} {g h : Nat} (r : NRow X B w) (t : Turn g h w w') (h1 : X ≠ g) (h2 : X ≠ h) : NRow X B w' :=
  ⟨Nat.lt_of_lt_of_le r.1 t.size, fun i hi j u hu => (t.cell (p := ⟨X, i * 6 + j, none⟩) r.1 h1 h2).trans (r.2 i hi j u hu)⟩
theorem NRow.below {X : Nat} {B : Int} {w w' : World} (r : NRow X B w) (hb : Below w.heap.size w w') : NRow X B w' := r.turn (Turn.of_below (g := w.heap.size) (h := w.heap.size) hb) (Nat.ne_of_lt r.1) (Nat.ne_of_lt r.1)
set_option maxRecDepth 100000 in
set_option maxHeartbeats 1000000 in
theorem tlbNumbers_walk (w : World) :
    Calls Try.prog 3 #[] w fun e w' => e = .returned (.bool true) ∧ Below w.heap.size w w' := by
  go_enter Try.func3, Try.ntmps3
  go_wp2_with fail
  go_loopw [1] (fun i wr => ∃ B : Int, 0 ≤ B ∧ B ≤ 128 ∧ i = .int .u32 B ∧ Hid (Below w.heap.size w wr)) (fun i _ => (128 - intOf i).toNat)
  case atStart => exact ⟨0, by omega, by omega, rfl, Lib.hid (Below.refl _ _)⟩
  case round =>
    obtain ⟨B, hB0, hB1, rfl, hB⟩ := hrel
    have hzr := hB.out.size
    by_cases hx : B = 128
    · subst hx
      have HKN := Lib.hid (known_any wr)
      go_wp2_with (go_at_call 11; refine HKN.out.mono ?_; rintro e w3 ⟨rfl, hb3⟩; have HB3 := Lib.hid (hB.out.trans (hb3.mono hzr)); clear hb3)
      go_ret
      exact ⟨rfl, HB3.out⟩
    · have hB2 : B < 128 := by omega
      have HB2 := Lib.hid hB2
      clear hx hB1
      go_wp2_with (first
        | (go_at_call 8
           refine (new_any _).mono ?_
           rintro e w1 ⟨rfl, hE1, hb1, hz1⟩
           have HE1 := Lib.hid hE1
           have HB1 := Lib.hid hb1
           have HZ1 := Lib.hid hz1
           clear hE1 hb1 hz1)
        | (go_at_call 9
           refine (rnew_any _).mono ?_
           rintro e w2 ⟨rfl, hE2, hb2, hz2⟩
           have HD := Lib.hid (both_new HE1.out HZ1.out hb2 hE2)
           have HBB := Lib.hid (HB1.out.trans (hb2.mono (Nat.le_of_lt HZ1.out)))
           have HNR := Lib.hid (NRow.new w2 28 B)
           have HD2 := Lib.hid (HD.out.below ((Below.refl _ _).alloc (Nat.le_refl _) (.cells (celQ (nq B)).toArray 28)))
           have HBB2 := Lib.hid (HBB.out.alloc HBB.out.size (.cells (celQ (nq B)).toArray 28))
           have HS2 := Lib.hid (And.intro HZ1.out hz2)
           have hww : (Obj.cells (celQ (nq B)).toArray 28) = .cells #[.int .i64 1, .int .i64 1, .int .u32 192, .int .u32 7, .int .u32 B, .bool false, .int .i64 0, .int .i64 0, .int .u32 255, .int .u32 0, .int .u32 0, .bool false, .int .i64 0, .int .i64 0, .int .u32 1216, .int .u32 0, .int .u32 0, .bool false, .int .i64 1, .int .i64 1, .int .u32 4294967295, .int .u32 4294967295, .int .u32 B, .bool false, .int .i64 2, .int .i64 0, .int .u32 1216, .int .u32 0, .int .u32 0, .bool false, .int .i64 2, .int .i64 0, .int .u32 192, .int .u32 0, .int .u32 0, .bool false, .int .i64 1, .int .i64 5, .int .u32 64, .int .u32 0, .int .u32 0, .bool false, .int .i64 3, .int .i64 0, .int .u32 0, .int .u32 0, .int .u32 0, .bool false, .int .i64 0, .int .i64 0, .int .u32 0, .int .u32 0, .int .u32 0, .bool false] 28 := rfl
           rw [hww] at HNR HD2 HBB2
           clear hE2 hb2 hz2 hww HE1 HB1 HZ1 HD HBB))
      have hs1 := HS2.out.1
      have hs2 := HS2.out.2
      have hzW := HNR.out.1
      generalize w2.alloc (.cells #[.int .i64 1, .int .i64 1, .int .u32 192, .int .u32 7, .int .u32 B, .bool false, .int .i64 0, .int .i64 0, .int .u32 255, .int .u32 0, .int .u32 0, .bool false, .int .i64 0, .int .i64 0, .int .u32 1216, .int .u32 0, .int .u32 0, .bool false, .int .i64 1, .int .i64 1, .int .u32 4294967295, .int .u32 4294967295, .int .u32 B, .bool false, .int .i64 2, .int .i64 0, .int .u32 1216, .int .u32 0, .int .u32 0, .bool false, .int .i64 2, .int .i64 0, .int .u32 192, .int .u32 0, .int .u32 0, .bool false, .int .i64 1, .int .i64 5, .int .u32 64, .int .u32 0, .int .u32 0, .bool false, .int .i64 3, .int .i64 0, .int .u32 0, .int .u32 0, .int .u32 0, .bool false, .int .i64 0, .int .i64 0, .int .u32 0, .int .u32 0, .int .u32 0, .bool false] 28) = W at *
      generalize w2.heap.size = X at *
      generalize w1.heap.size = h at *
      generalize wr.heap.size = z at *
      clear HS2
      go_loopw [27] (fun i wr => ∃ (k : Nat) (S : Nat → En), k ≤ 9 ∧ i = .int .i64 k ∧ Hid (Both wr z h S) ∧ Hid (NRow X B wr) ∧ Hid (Below z W wr)) (fun i _ => 9 - (intOf i).toNat)
      case atStart => exact ⟨0, _, by omega, rfl, HD2, HNR, Lib.hid (Below.refl _ _)⟩
      case round =>
        clear HD2 HNR
        obtain ⟨k, S, hk, rfl, hD, hN, hT⟩ := hrel
        have hzx := hN.out.1
        by_cases hlt : k < 9
        · have key := fun j u hu => hN.out.2 k hlt j u hu
          have e0 := key 0 _ rfl
          have e1 := key 1 _ rfl
          have e2 := key 2 _ rfl
          have e3 := key 3 _ rfl
          have e4 := key 4 _ rfl
          have e5 := key 5 _ rfl
          rw [Nat.add_zero] at e0
          obtain ⟨hv, hp, hb⟩ := nq_in B hB0 HB2.out ((nq B)[k]'hlt) (List.getElem_mem hlt)
          have hdo := fun (W : World) (hW : Both W z h S) => do_any ((nq B)[k]'hlt).k ((nq B)[k]'hlt).hw ((nq B)[k]'hlt).va ((nq B)[k]'hlt).p ((nq B)[k]'hlt).b ((nq B)[k]'hlt).s hv.1 hv.2 hp hb W hW
          unfold askV at hdo
          have HDO := Lib.hid hdo
          have HK := Lib.hid hlt
          have hk0 : (0 : Int) ≤ (k : Int) := by omega
          have hk1 : (k : Int) < 9 := by omega
          clear key hv hp hb hdo
          generalize (nq B)[k]'hlt = q at *
          obtain ⟨qk, qh, qv, qp, qb, qs⟩ := q
          simp only at e0 e1 e2 e3 e4 e5 HDO
          clear hlt
          have HN0 := Lib.hid (hN.out.below ((Below.refl _ _).alloc (Nat.le_refl _) (.cells #[.int .i64 qk, .int .i64 qh, .int .u32 qv, .int .u32 qp, .int .u32 qb, .bool qs] 28)))
          have HD0 := Lib.hid (hD.out.below ((Below.refl _ _).alloc (Nat.le_refl _) (.cells #[.int .i64 qk, .int .i64 qh, .int .u32 qv, .int .u32 qp, .int .u32 qb, .bool qs] 28)))
          have HB3 := Lib.hid (hT.out.trans (((Below.refl wr.heap.size wr).alloc (Nat.le_refl _) (.cells #[.int .i64 qk, .int .i64 qh, .int .u32 qv, .int .u32 qp, .int .u32 qb, .bool qs] 28)).mono (by omega)))
          have HF := Lib.hid (HDO.out _ HD0.out)
          unfold Did at HF
          clear HDO hD hN
          go_wp2_with (go_at_call 10
                       refine HF.out.mono ?_
                       rintro e w3 ⟨rfl, ⟨Y, hY⟩, hT3⟩
                       have HY := Lib.hid hY
                       have HN3 := Lib.hid (HN0.out.turn hT3 (by omega) (by omega))
                       have HB4 := Lib.hid (hT3.below (Nat.le_refl _) (Nat.le_of_lt hs1) HB3.out (by simp; omega))
                       clear hY hT3)
          go_roundw
          case rel => exact ⟨k + 1, Y, by have := HK.out; omega, by go_num, HY, HN3, HB4⟩
          case measure => have := HK.out; simp [intOf]; omega
        · obtain rfl : k = 9 := by omega
          clear hk hlt
          have HBe := Lib.hid (hB.out.trans ((HBB2.out.trans hT.out).mono hzr))
          go_wp2_with fail
          go_roundw
          case rel => exact ⟨B + 1, by omega, by omega, by go_num, HBe⟩
          case measure => simp [intOf]; omega
end Go.Proofs.Ytblfplhiamcpoaa

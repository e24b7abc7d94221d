/-
  tlb.New, Flush, At, Len: A CONTRACT EACH.
-/
import Derived.Test.YtblfplhiamcpoaaBh
import Derived.Deep.WholeRow
namespace Go.Proofs.Ytblfplhiamcpoaa
open Go.RowKit
set_option linter.unusedSimpArgs false
set_option linter.unusedVariables false

/-- a struct or an array is made of its parts -/
theorem wpList_build {P : Program} {w : World} {ops : Array Oper} {rest : List Oper} {o : Oper} {a : Act} {Q : Exit → Act → World → Prop} (hgd : o.guard = none) (t : TypeId) (parts : Array (Nat × Operand))
    (ho : o.op = .build t parts) (ps : List (Nat × Value)) (hp : parts.toList.map (fun x => (x.1, a.eval x.2)) = ps) (v : Value) (hr : (Instr.build t ps.toArray).run P w = .ok v w) (h : wpList P ops Q rest (a.put o.dst v) w) : wpList P ops Q (o :: rest) a w :=
  wpList_plain hgd fun K hK => by
    have e : (parts.map fun x => (x.1, a.eval x.2)) = ps.toArray := by
      rw [← hp, ← List.map_toArray, Array.toArray_toList]
    unfold Oper.wp execOp
    simp only [ho, Sem.run_bind, e, hr, Sem.run_pure, Result.andThen_ok]
    exact hK _ _ h
theorem zeroA : (Try.prog.info? 43).map (fun i => (i.zero, i.size)) = some (some (.agg (zs16 16).toArray), 64) := by kernel_rfl
theorem zeroBu : (Try.prog.info? 47).map (fun i => (i.zero, i.size)) = some (some (.agg (zs16 16).toArray), 64) := by kernel_rfl
theorem buildA (w : World) : (Instr.build 43 #[]).run Try.prog w = .ok (.agg (zs16 16).toArray) w := by
  have hz := (zero_of_info zeroA).1 w
  simp [Instr.build, Sem.run_bind, hz, Value.cells, Instr.fill]
theorem buildB (w : World) : (Instr.build 47 #[]).run Try.prog w = .ok (.agg (zs16 16).toArray) w := by
  have hz := (zero_of_info zeroBu).1 w
  simp [Instr.build, Sem.run_bind, hz, Value.cells, Instr.fill]
/-- what New leaves -/
def NewB (w : World) (e : Ending) (w' : World) : Prop :=
  e = .returned (.pointer (some ⟨w.heap.size, 0, none⟩)) ∧ IsE w' w.heap.size 0 (fun _ => en0) ∧ Below w.heap.size w w' ∧ w.heap.size < w'.heap.size
theorem new_isE (w : World) (t : TypeId) : IsE (w.alloc (.cells (zs16 16).toArray t)) w.heap.size 0 (fun _ => en0) := isE_blk [] (Blk.new w t _)
theorem new_any (w : World) : Calls Try.prog 8 #[] w (NewB w) := by
  have HN := Lib.hid (new_isE w 47)
  have HB := Lib.hid buildB
  generalize (zs16 16).toArray = Z at *
  go_enter Try.func8, Try.ntmps8
  go_wp2_with (refine wpList_build rfl 47 #[] (by rfl) [] (by rfl) (.agg Z) (HB.out _) ?_)
  go_ret
  exact ⟨rfl, HN.out, (Below.refl _ _).alloc (Nat.le_refl _) _, by simp⟩
section
variable {g : Nat} {S : Nat → En}
theorem flush_any (w : World) (hE : IsE w g 0 S) :
    Calls Try.prog 16 #[.pointer (some ⟨g, 0, none⟩)] w (Lf g (fun _ => en0) (.returned (.tuple #[])) w) := by
  have HC := Lib.hid hE.clear
  have HTH := Lib.hid hE.all
  have hl : (zs16 16).toArray.size = 64 := by rw [List.size_toArray]; exact zs16_len 16
  have HO := Lib.hid (all_oneCell_toArray (zs16_one 16))
  have HSZ := Lib.hid (show (Try.prog.info? 43).map (·.size) = some (zs16 16).toArray.size by rw [hl]; exact (zero_of_info zeroA).2)
  have HB := Lib.hid buildA
  have HLE := Lib.hid hl
  have HTL := Lib.hid (show (zs16 16).toArray.toList = zs16 16 from List.toList_toArray)
  unfold Lf
  clear hl hE
  generalize (zs16 16).toArray = Z at *
  go_enter Try.func16, Try.ntmps16
  go_wp2_with (first
    | (refine wpList_build rfl 43 #[] (by rfl) [] (by rfl) (.agg Z) (HB.out _) ?_)
    | (refine wpList_store_mid rfl 43 _ _ rfl g 0 Z (by rfl) (by rfl) (by rw [HLE.out]; exact HTH.out) HSZ.out HO.out ?_))
  refine bodyPost_end (v := .tuple #[]) (by simp [results, Try.results16, go_sem]) rfl ?_
  exact ⟨rfl, by rw [HTL.out]; exact HC.out, Turn.setsG _ _ (Turn.refl _ _ _)⟩
/-- a result that stands in a block of its own -/
theorem results_cell1 {fn : Func} {p : Tmp} {tp : TypeId} {P : Program} {f1} (h : fn.results = #[.cell p tp]) (tmps : Array Value) (w : World) (g1 : Nat) (t1 : TypeId) (c1 : Array Value)
    (hp : tmps.getD p undef = .pointer (some ⟨g1, 0, none⟩)) (h1 : w.heap[g1]? = some (.cells c1 t1 (0, 0)))
    (hu1 : P.underlying tp = some (.struct f1)) (hi1 : (P.info? tp).map (·.size) = some c1.size) :
    (results fn tmps).run P w = .ok (.agg c1) w := by
  have hp' : tmps[p]?.getD undef = .pointer (some ⟨g1, 0, none⟩) := by simpa using hp
  simp [results, h, hp', asAddr, run_loadVar_row w g1 t1 tp c1 (0, 0) _ h1 hu1 rfl hi1, Sem.run_bind, Result.andThen]
/-- which slot At tells of -/
def atS (S : Nat → En) (i : Int) : En := if 0 ≤ i ∧ i < 16 then S i.toNat else en0
set_option maxRecDepth 100000 in
theorem at_any (i : Int) (w : World) (hE : IsE w g 0 S) :
    Calls Try.prog 17 #[.pointer (some ⟨g, 0, none⟩), .int .i64 i] w fun r w' => r = .returned (atS S i).ag ∧ Below w.heap.size w w' := by
  unfold atS
  by_cases hi : 0 ≤ i ∧ i < 16
  · rw [if_pos hi]
    obtain ⟨j, rfl⟩ := Int.eq_ofNat_of_zero_le hi.1
    have hj : j < 16 := by omega
    rw [show ((j : Int)).toNat = j by omega]
    have c0 := hE.c0 _ hj
    have c1 := hE.c1 _ hj
    have c2 := hE.c2 _ hj
    have c3 := hE.c3 _ hj
    have hz := hE.z
    simp only [Nat.zero_add] at c0 c1 c2 c3
    unfold En.ag
    generalize (S j).v = v at *
    generalize (S j).n = n at *
    generalize (S j).p = p at *
    generalize (S j).b = b at *
    clear hE
    obtain ⟨h0, h1⟩ := hi
    go_enter Try.func17, Try.ntmps17
    go_wp2
    exact bodyPost_ret (results_cell1 rfl _ _ w.heap.size _ _ rfl (heap_alloc_new w _) Try.underlying35 Try.info_ent9) rfl ⟨rfl, (Below.refl _ _).alloc (Nat.le_refl _) _⟩
  · rw [if_neg hi]
    have hz := hE.z
    by_cases h : i < 0
    · go_enter Try.func17, Try.ntmps17
      go_wp2
      exact bodyPost_ret (results_cell1 rfl _ _ w.heap.size _ _ rfl (heap_alloc_new w _) Try.underlying35 Try.info_ent9) rfl ⟨rfl, (Below.refl _ _).alloc (Nat.le_refl _) _⟩
    · have h2 : 16 ≤ i := by omega
      go_enter Try.func17, Try.ntmps17
      go_wp2
      exact bodyPost_ret (results_cell1 rfl _ _ w.heap.size _ _ rfl (heap_alloc_new w _) Try.underlying35 Try.info_ent9) rfl ⟨rfl, (Below.refl _ _).alloc (Nat.le_refl _) _⟩
end
/-- the cells of the first n slots -/
def celE (S : Nat → En) : Nat → List Value
  | 0 => []
  | n + 1 => celE S n ++ (S n).cs
theorem celE_len (S : Nat → En) (n : Nat) : (celE S n).length = n * 4 := by
  induction n with
  | zero => rfl
  | succ n ih => rw [celE, List.length_append, ih, Nat.succ_mul]; rfl
theorem celE_get (S : Nat → En) : ∀ (n i j : Nat), i < n → j < 4 → (celE S n)[i * 4 + j]? = (S i).cs[j]?
  | n + 1, i, j, h, hj => by
    rw [celE]
    by_cases hi : i < n
    · rw [List.getElem?_append_left (by rw [celE_len]; omega)]
      exact celE_get S n i j hi hj
    · obtain rfl : i = n := by omega
      rw [List.getElem?_append_right (by rw [celE_len]; omega), celE_len, Nat.add_sub_cancel_left]
section
variable {g : Nat} {S : Nat → En}
theorem IsE.range {w : World} {o : Nat} (x : IsE w g o S) : w.rangeAt g o (celE S 16) := fun j v hv => by
  have hj : j < 64 := by
    have := (List.getElem?_eq_some_iff.1 hv).1
    rw [celE_len] at this; exact this
  have h := celE_get S 16 (j / 4) (j % 4) (by omega) (by omega)
  rw [show j / 4 * 4 + j % 4 = j by omega, hv] at h
  have hk : o + j = o + j / 4 * 4 + j % 4 := by omega
  rw [hk]
  have h4 : j % 4 = 0 ∨ j % 4 = 1 ∨ j % 4 = 2 ∨ j % 4 = 3 := by omega
  rcases h4 with e | e | e | e
  · rw [e] at h ⊢; rw [Nat.add_zero, x.c0 _ (by omega), h]; rfl
  · rw [e] at h ⊢; rw [x.c1 _ (by omega), h]; rfl
  · rw [e] at h ⊢; rw [x.c2 _ (by omega), h]; rfl
  · rw [e] at h ⊢; rw [x.c3 _ (by omega), h]; rfl
end
theorem list4 {l : List Value} {a b c d : Value} (hl : l.length = 4) (h0 : l[0]? = some a) (h1 : l[1]? = some b) (h2 : l[2]? = some c) (h3 : l[3]? = some d) : l = [a, b, c, d] := by
  match l, hl with
  | [x0, x1, x2, x3], _ =>
    simp at h0 h1 h2 h3
    rw [h0, h1, h2, h3]
theorem celE_ext (S : Nat → En) (k : Nat) (hk : k < 16) : (celE S 16).toArray.extract (k * 4) (k * 4 + 4) = #[.bool (S k).v, .int .u32 (S k).n, .int .u32 (S k).p, .int .u32 (S k).b] := by
  have hl := celE_len S 16
  have e : (celE S 16).toArray.extract (k * 4) (k * 4 + 4) = (((celE S 16).drop (k * 4)).take 4).toArray := by
    rw [List.extract_toArray, List.extract_eq_take_drop, Nat.add_sub_cancel_left]
  rw [e]
  congr 1
  have hd : ∀ j, j < 4 → (((celE S 16).drop (k * 4)).take 4)[j]? = (S k).cs[j]? := fun j hj => by
    rw [List.getElem?_take, if_pos hj, List.getElem?_drop]
    exact celE_get S 16 k j hk hj
  exact list4 (by rw [List.length_take, List.length_drop, hl]; omega) (hd 0 (by omega)) (hd 1 (by omega)) (hd 2 (by omega)) (hd 3 (by omega))
/-- an element of an array of entries, by value -/
theorem indexE {S : Nat → En} (k : Nat) (hk : k < 16) (w : World) : (Instr.index 43 (.agg (celE S 16).toArray) (.int .i64 k)).run Try.prog w = .ok (S k).ag w := by
  have hu : Try.prog.underlying 43 = some (.array 16 35) := by kernel_rfl
  have hagg : (isAgg 35).run Try.prog w = .ok true w := by
    unfold isAgg
    rw [Sem.run_bind, run_underlying Try.underlying35 w]
    rfl
  have hsz : (sizeOf 35).run Try.prog w = .ok 4 w := by
    have h := Try.info_ent9
    cases hq : Try.prog.info? 35 with
    | none => simp [hq] at h
    | some i => simp [hq] at h; simp [sizeOf, typeInfo, hq, h]
  have hi : (0 : Int) ≤ (k : Int) ∧ (k : Int) < ((16 : Nat) : Int) := by omega
  have ht : ((k : Int)).toNat = k := by omega
  have he := celE_ext S k hk
  generalize (celE S 16).toArray = C at *
  simp only [Instr.index, asIntOf, Sem.run_bind, Sem.run_pure, Result.andThen_ok, run_underlying hu w, if_pos hi, hsz, ht, part, hagg, he, if_true]
  rfl
/-- an element of an array, by value -/
theorem wpList_index {P : Program} {w : World} {ops : Array Oper} {rest : List Oper} {o : Oper} {a : Act} {Q : Exit → Act → World → Prop} (hgd : o.guard = none) (t : TypeId) (x y : Operand)
    (ho : o.op = .index t x y) (v : Value) (hr : (Instr.index t (a.eval x) (a.eval y)).run P w = .ok v w) (h : wpList P ops Q rest (a.put o.dst v) w) : wpList P ops Q (o :: rest) a w :=
  wpList_plain hgd fun K hK => by
    unfold Oper.wp execOp
    simp only [ho, Sem.run_bind, hr, Sem.run_pure, Result.andThen_ok]
    exact hK _ _ h
section
variable {g : Nat} {S : Nat → En}
set_option maxRecDepth 100000 in
theorem len_any (w : World) (hE : IsE w g 0 S) :
    Calls Try.prog 14 #[.pointer (some ⟨g, 0, none⟩)] w fun r w' => r = .returned (.int .i64 ((cntE S 16 : Nat) : Int)) ∧ Below w.heap.size w w' := by
  have HI := Lib.hid (fun k hk w => indexE (S := S) k hk w)
  have HR := Lib.hid hE.range
  have HL := Lib.hid (show (Try.prog.info? 43).map (·.size) = some (celE S 16).length by rw [celE_len]; exact (zero_of_info zeroA).2)
  have HU := Lib.hid (show Try.prog.underlying 43 = some (.array 16 35) by kernel_rfl)
  have hz := hE.z
  unfold En.ag at HI
  clear hE
  generalize celE S 16 = C at *
  go_enter Try.func14, Try.ntmps14
  go_wp2_with (refine wpList_load_mid rfl 43 _ rfl g 0 (by rfl) C _ HR.out HU.out rfl HL.out ?_)
  have HZ := Lib.hid hz
  clear hz
  go_loopw [3, 10] (fun n i wr => ∃ k : Nat, k ≤ 16 ∧ i = .int .i64 k ∧ n = .int .i64 ((cntE S k : Nat) : Int) ∧ Hid (Below w.heap.size w wr)) (fun _ i _ => 16 - (intOf i).toNat)
  case atStart => exact ⟨0, by omega, rfl, rfl, Lib.hid (Below.refl _ _)⟩
  case round =>
    obtain ⟨k, hk, rfl, rfl, hB⟩ := hrel
    have hle := cntE_le S k
    by_cases hlt : k < 16
    · have hki : (k : Int) < 16 := by omega
      have hk0 : (0 : Int) ≤ (k : Int) := by omega
      have hs : cntE S (k + 1) = cntE S k + (if (S k).v = true then 1 else 0) := rfl
      have HK := Lib.hid hlt
      have HH := Lib.hid (fun w => HI.out k hlt w)
      generalize hcn : cntE S k = cn at *
      generalize (S k).v = v at *
      generalize (S k).n = n at *
      generalize (S k).p = p at *
      generalize (S k).b = b at *
      have hcn0 : (0 : Int) ≤ (cn : Int) := by omega
      have hcn1 : (cn : Int) ≤ 16 := by omega
      have HS := Lib.hid hs
      have HCN := Lib.hid hle
      clear hs hlt hle hcn
      cases v
      · go_wp2_with (refine wpList_index rfl 43 _ _ rfl _ (HH.out _) ?_)
        go_roundw
        case rel => exact ⟨k + 1, by have := HK.out; omega, by go_num, by rw [HS.out]; simp, Lib.hid (hB.out.alloc hB.out.size _)⟩
        case measure => have := HK.out; simp [intOf]; omega
      · go_wp2_with (refine wpList_index rfl 43 _ _ rfl _ (HH.out _) ?_)
        go_roundw
        case rel => exact ⟨k + 1, by have := HK.out; omega, by go_num, by rw [HS.out]; simp, Lib.hid (hB.out.alloc hB.out.size _)⟩
        case measure => have := HK.out; simp [intOf]; omega
    · obtain rfl : k = 16 := by omega
      clear hk hlt
      go_wp2
      go_ret
      exact ⟨rfl, hB.out⟩
end
end Go.Proofs.Ytblfplhiamcpoaa

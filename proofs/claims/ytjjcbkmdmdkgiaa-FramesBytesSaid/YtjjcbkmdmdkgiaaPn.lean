/-
  New of both pools: A CONTRACT EACH; a struct that is made in one operation.
-/
import Derived.Test.YtjjcbkmdmdkgiaaPz
namespace Go.Proofs.Ytjjcbkmdmdkgiaa
open Go.RowKit
set_option linter.unusedSimpArgs false
set_option linter.unusedVariables false

/-- a struct or an array is made of its parts -/
theorem wpList_build {P : Program} {w : World} {ops : Array Oper} {rest : List Oper} {o : Oper} {a : Act} {Q : Exit → Act → World → Prop} (hgd : o.guard = none) (t : TypeId) (parts : Array (Nat × Operand))
    (ho : o.op = .build t parts) (ps : List (Nat × Value)) (hp : parts.toList.map (fun x => (x.1, a.eval x.2)) = ps) (v : Value) (hr : (Instr.build t ps.toArray).run P w = .ok v w) (h : wpList P ops Q rest (a.put o.dst v) w) : wpList P ops Q (o :: rest) a w :=
  wpList_plain hgd fun K hK => by
    have e : (parts.map fun x => (x.1, a.eval x.2)) = ps.toArray := by
      rw [← hp, ← List.map_toArray, Array.toArray_toList]
    unfold Oper.wp execOp
    simp only [ho, Sem.run_bind, e, hr, Sem.run_pure, Result.andThen_ok]
    exact hK _ _ h
theorem buildP (w : World) : (Instr.build 61 #[]).run Try.prog w = .ok (.agg (zc 61)) w := by
  have hz := (zero_of_info zeroP).1 w
  simp [Instr.build, Sem.run_bind, hz, Value.cells, Instr.fill]
theorem buildR (w : World) : (Instr.build 66 #[]).run Try.prog w = .ok (.agg (zc 66)) w := by
  have hz := (zero_of_info zeroR).1 w
  simp [Instr.build, Sem.run_bind, hz, Value.cells, Instr.fill]
theorem buildF (w : World) : (Instr.build 55 #[]).run Try.prog w = .ok (.agg (frC (-1)).toArray) w := by
  have hz := (zero_of_info zeroF).1 w
  have e : zc 55 = (frC (-1)).toArray := by rw [← frZ_eq, ← zcF]
  rw [e] at hz
  simp [Instr.build, Sem.run_bind, hz, Value.cells, Instr.fill]
theorem buildH (o : Int) (ho : 0 ≤ o) (w : World) : (Instr.build 55 #[(0, .bool true), (1, .int .i64 o)]).run Try.prog w = .ok (.agg (frC o).toArray) w := by
  have hz := (zero_of_info zeroF).1 w
  have e : zc 55 = (frC (-1)).toArray := by rw [← frZ_eq, ← zcF]
  have h1 : neB o = true := by simpa [neB] using ho
  have h2 : pos o = o := by unfold pos; rw [if_pos ho]
  rw [e] at hz
  have key : ((frC (-1)).toArray.setIfInBounds 0 (.bool true)).setIfInBounds 1 (.int .i64 o) = (frC o).toArray := by
    unfold frC
    rw [h1, h2, List.setIfInBounds_toArray, List.setIfInBounds_toArray]
    rfl
  have hsz : (frC (-1)).toArray.size = 66 := by rw [List.size_toArray]; exact frC_len _
  have hsz2 : ((frC (-1)).toArray.setIfInBounds 0 (.bool true)).size = 66 := by rw [Array.size_setIfInBounds]; exact hsz
  generalize (frC (-1)).toArray = Z at *
  have hne : Z ≠ #[] := fun h => by rw [h] at hsz; simp at hsz
  simp [Instr.build, Sem.run_bind, hz, Value.cells, Instr.fill, hsz, hsz2, key, hne]
theorem buildB (w : World) : (Instr.build 53 #[]).run Try.prog w = .ok (.agg (List.replicate 64 (.int .u8 0)).toArray) w := by
  have hz := (zero_of_info zeroB).1 w
  have e : zc 53 = (List.replicate 64 (Value.int .u8 0)).toArray := by rw [← reps_one, ← zcB]
  rw [e] at hz
  generalize (List.replicate 64 (Value.int .u8 0)).toArray = Z at *
  simp [Instr.build, Sem.run_bind, hz, Value.cells, Instr.fill]

/-- an empty pool -/
def po0 : Po := ⟨fun _ => -1, fun _ => -1, fun _ _ => 0⟩
theorem po0_good : po0.Good := ⟨fun _ => .inl rfl, fun _ => .inl rfl, fun _ _ => by simp [po0]⟩
theorem new_isP (w : World) : IsP (w.alloc (.cells (zc 61) 61)) w.heap.size po0 := by
  have hc : ∀ i, (w.alloc (.cells (zc 61) 61)).cell? ⟨w.heap.size, i, none⟩ = (reps 256 frZ ++ (reps 4 [.bool false, .int .i64 0] ++ []))[i]? := fun i => by
    rw [World.cell?_alloc_new, ← Array.getElem?_toList, zcP]
  have hl : frZ.length = 66 := by rw [frZ_eq]; exact frC_len _
  have hlen : (reps 256 frZ).length = 16896 := by rw [reps_len, hl]
  have ha : ∀ f, f < 256 → ∀ j, j < 66 → (w.alloc (.cells (zc 61) 61)).cell? ⟨w.heap.size, f * 66 + j, none⟩ = frZ[j]? := fun f hf j hj => by
    rw [hc, List.getElem?_append_left (by rw [hlen]; omega)]
    have := reps_get frZ j (by rw [hl]; exact hj) 256 f hf
    rw [hl] at this; exact this
  have hb : ∀ o, o < 4 → ∀ j, j < 2 → (w.alloc (.cells (zc 61) 61)).cell? ⟨w.heap.size, 16896 + o * 2 + j, none⟩ = [Value.bool false, .int .i64 0][j]? := fun o ho j hj => by
    rw [hc, List.getElem?_append_right (by rw [hlen]; omega), hlen, List.append_nil, show 16896 + o * 2 + j - 16896 = o * 2 + j by omega]
    exact reps_get [Value.bool false, .int .i64 0] j hj 4 o ho
  refine ⟨po0_good, by simp, fun f hf => ?_, fun f hf => ?_, fun f hf a h => ?_, fun o ho => ?_, fun o ho => ?_, fun i => World.frozen?_alloc_new _ _ _ _⟩
  · have := ha f hf 0 (by omega); rw [Nat.add_zero] at this; rw [this]; rfl
  · rw [ha f hf 1 (by omega)]; rfl
  · rw [show f * 66 + 2 + a = f * 66 + (a + 2) by omega, ha f hf (a + 2) (by omega), frZ_eq, List.getElem?_eq_getElem (by rw [frC_len]; omega), frC_get]; rfl
  · have := hb o ho 0 (by omega); rw [Nat.add_zero] at this; rw [this]; rfl
  · rw [hb o ho 1 (by omega)]; rfl
/-- an empty pool of the document's, but for its marks -/
theorem new_isR0 (w : World) : (∀ f, f < 260 → (w.alloc (.cells (zc 66) 66)).cell? ⟨w.heap.size, f, none⟩ = some (.int .i64 0)) ∧ (∀ i, i < 16384 → ((w.alloc (.cells (zc 66) 66)).cell? ⟨w.heap.size, 260 + i, none⟩).isSome = true) := by
  have hc : ∀ i, (w.alloc (.cells (zc 66) 66)).cell? ⟨w.heap.size, i, none⟩ = (reps 260 [.int .i64 0] ++ (reps 256 (reps 64 [.int .u8 0]) ++ []))[i]? := fun i => by
    rw [World.cell?_alloc_new, ← Array.getElem?_toList, zcR]
  have hlen : (reps 260 [Value.int .i64 0]).length = 260 := by rw [reps_len]; rfl
  have hlen2 : (reps 256 (reps 64 [Value.int .u8 0])).length = 16384 := by rw [reps_len, reps_len]; rfl
  refine ⟨fun f hf => ?_, fun i hi => ?_⟩
  · rw [hc, List.getElem?_append_left (by rw [hlen]; exact hf), reps_one, List.getElem?_replicate, if_pos hf]
  · rw [hc, List.getElem?_append_right (by rw [hlen]; omega), hlen, List.append_nil, show 260 + i - 260 = i by omega, List.getElem?_eq_getElem (by rw [hlen2]; exact hi)]; rfl

/-- what New leaves -/
def NewP (w : World) (e : Ending) (w' : World) : Prop :=
  e = .returned (.pointer (some ⟨w.heap.size, 0, none⟩)) ∧ IsP w' w.heap.size po0 ∧ Below w.heap.size w w'
def NewR (w : World) (e : Ending) (w' : World) : Prop :=
  e = .returned (.pointer (some ⟨w.heap.size, 0, none⟩)) ∧ IsR w' w.heap.size po0 ∧ Below w.heap.size w w'
theorem newP_any (w : World) : Calls Try.prog 7 #[] w (NewP w) := by
  have HN := Lib.hid (new_isP w)
  have HB := Lib.hid buildP
  generalize zc 61 = Z at *
  go_enter Try.func7, Try.ntmps7
  go_wp2_with (refine wpList_build rfl 61 #[] (by rfl) [] (by rfl) (.agg Z) (HB.out _) ?_)
  go_ret
  exact ⟨rfl, HN.out, (Below.refl _ _).alloc (Nat.le_refl _) _⟩
set_option maxRecDepth 100000 in
theorem newR_any (w : World) : Calls Try.prog 8 #[] w (NewR w) := by
  have HN := Lib.hid (new_isR0 w)
  have HB := Lib.hid buildR
  have HF := Lib.hid (fun i => World.frozen?_alloc_new w (zc 66) 66 i)
  have HL := Lib.hid ((Below.refl w.heap.size w).alloc (Nat.le_refl _) (.cells (zc 66) 66))
  have HZ := Lib.hid (show w.heap.size < (w.alloc (.cells (zc 66) 66)).heap.size by simp)
  generalize zc 66 = Z at *
  go_enter Try.func8, Try.ntmps8
  go_wp2_with (refine wpList_build rfl 66 #[] (by rfl) [] (by rfl) (.agg Z) (HB.out _) ?_)
  generalize w.alloc (.cells Z 66) = W at *
  go_loopw [2] (fun i wr => ∃ k : Nat, k ≤ 256 ∧ i = .int .i64 k ∧ Hid (∀ f, f < 260 → wr.cell? ⟨w.heap.size, f, none⟩ = some (.int .i64 (if f < k then -1 else 0))) ∧ Hid (∀ f, f < 16384 → (wr.cell? ⟨w.heap.size, 260 + f, none⟩).isSome = true) ∧ Hid (∀ i, wr.frozen? ⟨w.heap.size, i, none⟩ = false) ∧ Hid (Below w.heap.size w wr) ∧ Hid (w.heap.size < wr.heap.size)) (fun i _ => 256 - (intOf i).toNat)
  case atStart => exact ⟨0, by omega, rfl, Lib.hid (fun f hf => by simpa using HN.out.1 f hf), Lib.hid HN.out.2, HF, HL, HZ⟩
  case round =>
    obtain ⟨k, hk, rfl, hO, hT, hF, hB, hZ⟩ := hrel
    by_cases hlt : k < 256
    · have hc := hO.out k (by omega)
      have hf := hF.out k
      go_wp2
      go_roundw
      case rel =>
        refine ⟨k + 1, by omega, by go_num, Lib.hid fun f hf => ?_, Lib.hid fun f hf => ?_, Lib.hid fun i => ?_, Lib.hid (hB.out.setCell (Nat.le_refl _) _), Lib.hid (by simpa using hZ.out)⟩
        · by_cases e : f = k
          · subst e; rw [World.cell?_setCell_same _ _ _ hc, if_pos (by omega)]
          · rw [World.cell?_setCell_other _ _ _ _ (by simp <;> omega), hO.out f hf]
            congr 2
            by_cases h : f < k
            · rw [if_pos h, if_pos (by omega)]
            · rw [if_neg h, if_neg (by omega)]
        · rw [World.cell?_setCell_other _ _ _ _ (by simp <;> omega)]; exact hT.out f hf
        · rw [World.frozen?_setCell]; exact hF.out i
      case measure => simp [intOf]; omega
    · obtain rfl : k = 256 := by omega
      clear hk hlt
      go_wp2
      go_loopw [3] (fun i wr => ∃ k : Nat, k ≤ 4 ∧ i = .int .i64 k ∧ Hid (∀ f, f < 260 → wr.cell? ⟨w.heap.size, f, none⟩ = some (.int .i64 (if f < 256 + k then -1 else 0))) ∧ Hid (∀ f, f < 16384 → (wr.cell? ⟨w.heap.size, 260 + f, none⟩).isSome = true) ∧ Hid (∀ i, wr.frozen? ⟨w.heap.size, i, none⟩ = false) ∧ Hid (Below w.heap.size w wr) ∧ Hid (w.heap.size < wr.heap.size)) (fun i _ => 4 - (intOf i).toNat)
      case atStart => exact ⟨0, by omega, rfl, hO, hT, hF, hB, hZ⟩
      case round =>
        clear hO hT hF hB hZ
        obtain ⟨k, hk, rfl, hO, hT, hF, hB, hZ⟩ := hrel
        by_cases hlt : k < 4
        · have hc := hO.out (256 + k) (by omega)
          have hf := hF.out (256 + k)
          go_wp2
          go_roundw
          case rel =>
            refine ⟨k + 1, by omega, by go_num, Lib.hid fun f hf => ?_, Lib.hid fun f hf => ?_, Lib.hid fun i => ?_, Lib.hid (hB.out.setCell (Nat.le_refl _) _), Lib.hid (by simpa using hZ.out)⟩
            · by_cases e : f = 256 + k
              · subst e; rw [World.cell?_setCell_same _ _ _ hc, if_pos (by omega)]
              · rw [World.cell?_setCell_other _ _ _ _ (by simp <;> omega), hO.out f hf]
                congr 2
                by_cases h : f < 256 + k
                · rw [if_pos h, if_pos (by omega)]
                · rw [if_neg h, if_neg (by omega)]
            · rw [World.cell?_setCell_other _ _ _ _ (by simp <;> omega)]; exact hT.out f hf
            · rw [World.frozen?_setCell]; exact hF.out i
          case measure => simp [intOf]; omega
        · obtain rfl : k = 4 := by omega
          clear hk hlt
          go_wp2
          go_ret
          exact ⟨rfl, ⟨po0_good, hZ.out, fun f hf => by rw [hO.out f (by omega), if_pos (by omega)]; rfl, fun o ho => by rw [hO.out _ (by omega), if_pos (by omega)]; rfl, hT.out, hF.out⟩, hB.out⟩
end Go.Proofs.Ytjjcbkmdmdkgiaa

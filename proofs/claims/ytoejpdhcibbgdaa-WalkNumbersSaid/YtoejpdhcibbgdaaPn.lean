/-
  New of both pools: A CONTRACT EACH; a struct that is made in one operation.
-/
import Derived.Test.YtoejpdhcibbgdaaPz
namespace Go.Proofs.Ytoejpdhcibbgdaa
open Go.RowKit
set_option linter.unusedSimpArgs false
set_option linter.unusedVariables false

/-- a struct or an array is made of its parts -/
theorem wpList_build {P : Program} {w : World} {ops : Array Oper} {rest : List Oper} {o : Oper} {a : Act} {Q : Exit → Act → World → Prop} (hgd : o.guard = none) (t : TypeId) (parts : Array (Nat × Operand))
    (ho : o.op = .build t parts) (ps : List (Nat × Value)) (hp : parts.toList.map (fun x => (x.1, a.eval x.2)) = ps) (v : Value) (hr : (Instr.build t ps.toArray).run P w = .ok v w) (h : wpList P ops Q rest (a.put o.dst v) w) : wpList P ops Q (o :: rest) a w :=
  wpList_plain hgd fun K hK => by
    have e : (parts.map fun x => (x.1, a.eval x.2)) = ps.toArray := by
      rw [← hp, ← List.map_toArray, Array.toArray_toList]
    unfold Oper.wp execOp
    simp only [ho, Sem.run_bind, e, hr, Sem.run_pure, Result.andThen_ok]
    exact hK _ _ h
theorem buildP (w : World) : (Instr.build 88 #[]).run Try.prog w = .ok (.agg (zc 88)) w := by
  have hz := (zero_of_info zeroP).1 w
  simp [Instr.build, Sem.run_bind, hz, Value.cells, Instr.fill]
theorem buildF (w : World) : (Instr.build 82 #[]).run Try.prog w = .ok (.agg (frC (-1)).toArray) w := by
  have hz := (zero_of_info zeroF).1 w
  have e : zc 82 = (frC (-1)).toArray := by rw [← frZ_eq, ← zcF]
  rw [e] at hz
  simp [Instr.build, Sem.run_bind, hz, Value.cells, Instr.fill]
theorem buildH (o : Int) (ho : 0 ≤ o) (w : World) : (Instr.build 82 #[(0, .bool true), (1, .int .i64 o)]).run Try.prog w = .ok (.agg (frC o).toArray) w := by
  have hz := (zero_of_info zeroF).1 w
  have e : zc 82 = (frC (-1)).toArray := by rw [← frZ_eq, ← zcF]
  have h1 : neB o = true := by simpa [neB] using ho
  have h2 : pos o = o := by unfold pos; rw [if_pos ho]
  rw [e] at hz
  have key : ((frC (-1)).toArray.setIfInBounds 0 (.bool true)).setIfInBounds 1 (.int .i64 o) = (frC o).toArray := by
    unfold frC
    rw [h1, h2, List.setIfInBounds_toArray, List.setIfInBounds_toArray]
    rfl
  have hsz : (frC (-1)).toArray.size = 66 := by rw [List.size_toArray]; exact frC_len _
  have hsz2 : ((frC (-1)).toArray.setIfInBounds 0 (.bool true)).size = 66 := by rw [Array.size_setIfInBounds]; exact hsz
  generalize (frC (-1)).toArray = Z at *
  have hne : Z ≠ #[] := fun h => by rw [h] at hsz; simp at hsz
  simp [Instr.build, Sem.run_bind, hz, Value.cells, Instr.fill, hsz, hsz2, key, hne]
/-- an empty pool -/
def po0 : Po := ⟨fun _ => -1, fun _ => -1, fun _ _ => 0⟩
theorem po0_good : po0.Good := ⟨fun _ => .inl rfl, fun _ => .inl rfl, fun _ _ => by simp [po0]⟩
theorem new_isP (w : World) : IsP (w.alloc (.cells (zc 88) 88)) w.heap.size po0 := by
  have hc : ∀ i, (w.alloc (.cells (zc 88) 88)).cell? ⟨w.heap.size, i, none⟩ = (reps 256 frZ ++ (reps 4 [.bool false, .int .i64 0] ++ []))[i]? := fun i => by
    rw [World.cell?_alloc_new, ← Array.getElem?_toList, zcP]
  have hl : frZ.length = 66 := by rw [frZ_eq]; exact frC_len _
  have hlen : (reps 256 frZ).length = 16896 := by rw [reps_len, hl]
  have ha : ∀ f, f < 256 → ∀ j, j < 66 → (w.alloc (.cells (zc 88) 88)).cell? ⟨w.heap.size, f * 66 + j, none⟩ = frZ[j]? := fun f hf j hj => by
    rw [hc, List.getElem?_append_left (by rw [hlen]; omega)]
    have := reps_get frZ j (by rw [hl]; exact hj) 256 f hf
    rw [hl] at this; exact this
  have hb : ∀ o, o < 4 → ∀ j, j < 2 → (w.alloc (.cells (zc 88) 88)).cell? ⟨w.heap.size, 16896 + o * 2 + j, none⟩ = [Value.bool false, .int .i64 0][j]? := fun o ho j hj => by
    rw [hc, List.getElem?_append_right (by rw [hlen]; omega), hlen, List.append_nil, show 16896 + o * 2 + j - 16896 = o * 2 + j by omega]
    exact reps_get [Value.bool false, .int .i64 0] j hj 4 o ho
  refine ⟨po0_good, by simp, fun f hf => ?_, fun f hf => ?_, fun f hf a h => ?_, fun o ho => ?_, fun o ho => ?_, fun i => World.frozen?_alloc_new _ _ _ _⟩
  · have := ha f hf 0 (by omega); rw [Nat.add_zero] at this; rw [this]; rfl
  · rw [ha f hf 1 (by omega)]; rfl
  · rw [show f * 66 + 2 + a = f * 66 + (a + 2) by omega, ha f hf (a + 2) (by omega), frZ_eq, List.getElem?_eq_getElem (by rw [frC_len]; omega), frC_get]; rfl
  · have := hb o ho 0 (by omega); rw [Nat.add_zero] at this; rw [this]; rfl
  · rw [hb o ho 1 (by omega)]; rfl
/-- what New leaves -/
def NewP (w : World) (e : Ending) (w' : World) : Prop :=
  e = .returned (.pointer (some ⟨w.heap.size, 0, none⟩)) ∧ IsP w' w.heap.size po0 ∧ Below w.heap.size w w'
theorem newP_any (w : World) : Calls Try.prog 20 #[] w (NewP w) := by
  have HN := Lib.hid (new_isP w)
  have HB := Lib.hid buildP
  generalize zc 88 = Z at *
  go_enter Try.func20, Try.ntmps20
  go_wp2_with (refine wpList_build rfl 88 #[] (by rfl) [] (by rfl) (.agg Z) (HB.out _) ?_)
  go_ret
  exact ⟨rfl, HN.out, (Below.refl _ _).alloc (Nat.le_refl _) _⟩
end Go.Proofs.Ytoejpdhcibbgdaa

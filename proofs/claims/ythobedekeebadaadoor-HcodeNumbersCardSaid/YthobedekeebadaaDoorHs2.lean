/-
  innkeeperlaw3.same returns true, of a right instruction.
-/
import Derived.Test.YthobedekeebadaaDoorHs1
namespace Go.Proofs.YthobedekeebadaaDoor
open Go.RowKit
set_option linter.unusedSimpArgs false
set_option linter.unusedVariables false

theorem quiet_class {P : Program} {f : FuncId} {args : Array Value} {ι : Type} {WW : ι → World} {x : ι} {v : Value}
    (h : Calls P f args (WW x) fun e w' => e = .returned v ∧ WW x = w') : Calls P f args (WW x) fun e w' => e = .returned v ∧ ∃ y, w' = WW y :=
  h.mono fun _ _ ⟨he, hm⟩ => ⟨he, x, hm.symm⟩

set_option maxRecDepth 100000 in
set_option maxHeartbeats 8000000 in
theorem same_ok (o : Int) (d a b n : Nat) (hk : okH o d a b n = true) (n1 : n < 4294967296) (w : World) (ht : Tab w.heap.size w) :
    Calls Tryd.prog 7 #[hv o d a b n] w fun e w' => e = .returned (.bool true) ∧ Below w.heap.size w w' := by
  obtain ⟨⟨o0, o1⟩, ⟨d0, d1⟩, ⟨a0, a1⟩, ⟨b0, b1⟩⟩ := okH_bd hk
  have hen := encode_any o d a b n (by omega) (by omega)
  have hrr := rright_any o d a b n
  have hri := right_any o d a b n
  have hre := rencode_any o d a b n (by omega) (by omega)
  rw [rf_ok o d a b n hk (by omega)] at hre
  have hnm := rname_any o (by simp [isO]; omega)
  have htx := fun (W : World) (hW : Tab W.heap.size W) => text_ok o d a b n hk n1 W hW
  rw [hk] at hrr hri
  simp only [hk, true_implies] at hen
  have hnl := nm_len o
  have l1 := dec_len d (by omega)
  have l2 := dec_len a (by omega)
  have l3 := dec_len b (by omega)
  have l4 := dec_len n (by omega)
  have uw : ∀ x : Nat, x < 4294967296 → IntKind.u32.wrap (x : Int) = (x : Int) := fun x x1 => by rw [IntKind.wrap_u32]; omega
  have u1 := uw d (by omega)
  have u2 := uw a (by omega)
  have u3 := uw b (by omega)
  have v1 : (d : Int) % 4294967296 = d := by omega
  have v2 : (a : Int) % 4294967296 = a := by omega
  have v3 : (b : Int) % 4294967296 = b := by omega
  have s1 : d < 4294967296 := by omega
  have s2 : a < 4294967296 := by omega
  have s3 : b < 4294967296 := by omega
  obtain ⟨DD, hDD⟩ : ∃ DD : Nat → ByteArray, DD = fun u => ⟨(Lib.decDigits u).toArray⟩ := ⟨_, rfl⟩
  have gg : ∀ (u : Nat), u < 4294967296 → ∀ W : World, Calls Tryd.prog 18 #[.int .u32 u] W fun e w' => e = .returned (.string (DD u)) ∧ W = w' := fun u hu W => by rw [hDD]; exact digits_any u hu W
  have z1 : (⟨(Lib.decDigits d).toArray⟩ : ByteArray) = DD d := by rw [hDD]
  have z2 : (⟨(Lib.decDigits a).toArray⟩ : ByteArray) = DD a := by rw [hDD]
  have z3 : (⟨(Lib.decDigits b).toArray⟩ : ByteArray) = DD b := by rw [hDD]
  have z4 : (⟨(Lib.decDigits n).toArray⟩ : ByteArray) = DD n := by rw [hDD]
  have eT : nmH o ++ sps [d, a, b, n] = nmH o ++ [32] ++ Lib.decDigits d ++ [32] ++ Lib.decDigits a ++ [32] ++ Lib.decDigits b ++ [32] ++ Lib.decDigits n := by simp [sps]
  rw [eT] at htx
  have p1 : ∀ W, (Op.stringOp .add ⟨(nmH o).toArray⟩ ⟨#[32]⟩).run Tryd.prog W = .ok (.string ⟨(nmH o ++ [32]).toArray⟩) W := fun W => run_string_add_lists W _ [32] (by omega) (by decide)
  have p2 : ∀ W, (Op.stringOp .add ⟨(nmH o ++ [32]).toArray⟩ ⟨(Lib.decDigits d).toArray⟩).run Tryd.prog W = .ok (.string ⟨(nmH o ++ [32] ++ Lib.decDigits d).toArray⟩) W := fun W => run_string_add_lists W _ _ (by simp; omega) (by omega)
  have p3 : ∀ W, (Op.stringOp .add ⟨(nmH o ++ [32] ++ Lib.decDigits d).toArray⟩ ⟨#[32]⟩).run Tryd.prog W = .ok (.string ⟨(nmH o ++ [32] ++ Lib.decDigits d ++ [32]).toArray⟩) W := fun W => run_string_add_lists W _ [32] (by simp; omega) (by decide)
  have p4 : ∀ W, (Op.stringOp .add ⟨(nmH o ++ [32] ++ Lib.decDigits d ++ [32]).toArray⟩ ⟨(Lib.decDigits a).toArray⟩).run Tryd.prog W = .ok (.string ⟨(nmH o ++ [32] ++ Lib.decDigits d ++ [32] ++ Lib.decDigits a).toArray⟩) W := fun W => run_string_add_lists W _ _ (by simp; omega) (by omega)
  have p5 : ∀ W, (Op.stringOp .add ⟨(nmH o ++ [32] ++ Lib.decDigits d ++ [32] ++ Lib.decDigits a).toArray⟩ ⟨#[32]⟩).run Tryd.prog W = .ok (.string ⟨(nmH o ++ [32] ++ Lib.decDigits d ++ [32] ++ Lib.decDigits a ++ [32]).toArray⟩) W := fun W => run_string_add_lists W _ [32] (by simp; omega) (by decide)
  have p6 : ∀ W, (Op.stringOp .add ⟨(nmH o ++ [32] ++ Lib.decDigits d ++ [32] ++ Lib.decDigits a ++ [32]).toArray⟩ ⟨(Lib.decDigits b).toArray⟩).run Tryd.prog W = .ok (.string ⟨(nmH o ++ [32] ++ Lib.decDigits d ++ [32] ++ Lib.decDigits a ++ [32] ++ Lib.decDigits b).toArray⟩) W := fun W => run_string_add_lists W _ _ (by simp; omega) (by omega)
  have p7 : ∀ W, (Op.stringOp .add ⟨(nmH o ++ [32] ++ Lib.decDigits d ++ [32] ++ Lib.decDigits a ++ [32] ++ Lib.decDigits b).toArray⟩ ⟨#[32]⟩).run Tryd.prog W = .ok (.string ⟨(nmH o ++ [32] ++ Lib.decDigits d ++ [32] ++ Lib.decDigits a ++ [32] ++ Lib.decDigits b ++ [32]).toArray⟩) W := fun W => run_string_add_lists W _ [32] (by simp; omega) (by decide)
  have p8 : ∀ W, (Op.stringOp .add ⟨(nmH o ++ [32] ++ Lib.decDigits d ++ [32] ++ Lib.decDigits a ++ [32] ++ Lib.decDigits b ++ [32]).toArray⟩ ⟨(Lib.decDigits n).toArray⟩).run Tryd.prog W = .ok (.string ⟨(nmH o ++ [32] ++ Lib.decDigits d ++ [32] ++ Lib.decDigits a ++ [32] ++ Lib.decDigits b ++ [32] ++ Lib.decDigits n).toArray⟩) W := fun W => run_string_add_lists W _ _ (by simp; omega) (by omega)
  generalize (⟨(nmH o ++ [32] ++ Lib.decDigits d ++ [32] ++ Lib.decDigits a ++ [32] ++ Lib.decDigits b ++ [32] ++ Lib.decDigits n).toArray⟩ : ByteArray) = TX at *
  generalize (⟨(nmH o ++ [32] ++ Lib.decDigits d ++ [32] ++ Lib.decDigits a ++ [32] ++ Lib.decDigits b ++ [32]).toArray⟩ : ByteArray) = X7 at *
  generalize (⟨(nmH o ++ [32] ++ Lib.decDigits d ++ [32] ++ Lib.decDigits a ++ [32] ++ Lib.decDigits b).toArray⟩ : ByteArray) = X6 at *
  generalize (⟨(nmH o ++ [32] ++ Lib.decDigits d ++ [32] ++ Lib.decDigits a ++ [32]).toArray⟩ : ByteArray) = X5 at *
  generalize (⟨(nmH o ++ [32] ++ Lib.decDigits d ++ [32] ++ Lib.decDigits a).toArray⟩ : ByteArray) = X4 at *
  generalize (⟨(nmH o ++ [32] ++ Lib.decDigits d ++ [32]).toArray⟩ : ByteArray) = X3 at *
  generalize (⟨(nmH o ++ [32] ++ Lib.decDigits d).toArray⟩ : ByteArray) = X2 at *
  generalize (⟨(nmH o ++ [32]).toArray⟩ : ByteArray) = X1 at *
  generalize (⟨(nmH o).toArray⟩ : ByteArray) = X0 at *
  rw [z1] at p2
  rw [z2] at p4
  rw [z3] at p6
  rw [z4] at p8
  clear z1 z2 z3 z4 hDD
  have hcv : ∀ (W : World) (B : Nat) (A : Option Addr) (c : Nat), W.ownsRow B 5 1 (.slice A 8 c) 8 (bv (ehV o d a b n)) → (convert 28 9 (.slice A 8 c)).run Tryd.prog W = .ok (.string ⟨(ehV o d a b n).toArray⟩) W := fun W B A c h => conv_rd W W.heap.size A c (ehV o d a b n) (Rd.of_own h)
  generalize (⟨(ehV o d a b n).toArray⟩ : ByteArray) = R at *
  have HCV := Lib.hid hcv
  have HEN := Lib.hid hen
  have HRR := Lib.hid hrr
  have HRI := Lib.hid hri
  have HRE := Lib.hid hre
  have HNM := Lib.hid hnm
  have HTX := Lib.hid htx
  have HT := Lib.hid ht
  have GG := Lib.hid gg
  have HB := Lib.hid (Kept.new w o d a b n 24)
  clear hen hrr hri hre hnm htx ht hk hcv gg uw eT hnl l1 l2 l3 l4 o0 o1 d0 d1 a0 a1 b0 b1
  go_enter Tryd.func7, Tryd.ntmps7
  go_wp2_with fail
  refine (HEN.out _).mono ?_
  rintro e w1 ⟨hb, ⟨Ab, cb, rfl, ho⟩, _⟩
  have K1 := Lib.hid (HB.out.keep hb)
  have HO1 := Lib.hid ho
  obtain ⟨c0, c1, c2, c3, c4⟩ := K1.out.1
  clear hb ho
  go_wp2_with fail
  refine (HRR.out _).mono ?_
  rintro e w2 ⟨rfl, hb⟩
  have K2 := Lib.hid (K1.out.keep hb)
  have HO2 := Lib.hid (own_below HO1.out hb)
  clear hb c0 c1 c2 c3 c4 HO1
  go_wp2_with fail
  obtain ⟨ι, WW, hne, hS, hall⟩ := class_of (fun w' => Kept w o d a b n w' ∧ w2.heap.size ≤ w'.heap.size ∧ Below w2.heap.size w2 w') w2 ⟨K2.out, Nat.le_refl _, Below.refl _ _⟩
  have q0 := fun x => (hS x).1.1.1
  have q1 := fun x => (hS x).1.1.2.1
  have q2 := fun x => (hS x).1.1.2.2.1
  have q3 := fun x => (hS x).1.1.2.2.2.1
  have q4 := fun x => (hS x).1.1.2.2.2.2
  have HS := Lib.hid hS
  have qN : ∀ x, Calls Tryd.prog 17 #[.int .i64 o] (WW x) fun e w' => e = .returned (.string X0) ∧ ∃ y, w' = WW y := fun x =>
    (HNM.out (WW x)).mono fun e w' ⟨he, hb⟩ => ⟨he, hall _ ⟨(hS x).1.keep hb, Nat.le_trans (hS x).2.1 hb.size, (hS x).2.2.trans (hb.mono (hS x).2.1)⟩⟩
  have HQN := Lib.hid qN
  have hst : ∃ x, w2.drew = WW x := hall _ ⟨K2.out.drew, Nat.le_refl _, (Below.refl _ _).drew⟩
  have HST := Lib.hid hst
  clear hS hall qN hst
  refine wp_region_class WW (by kernel_rfl) (by kernel_rfl) HST.out ?_
  repeat quiet_step ((first
    | (go_at_call 17; exact HQN.out _)
    | (go_at_call 18; exact quiet_class (GG.out _ (by assumption) _))))
  refine wpQuiet_nil ?_
  rintro _ ⟨x, rfl⟩
  obtain ⟨K3, hz3, hb3⟩ := HS.out x
  have K3 := Lib.hid K3
  have HO3 := Lib.hid (own_below HO2.out hb3)
  clear q0 q1 q2 q3 q4 HQN HST HS hne p1 p2 p3 p4 p5 p6 p7 p8 GG s1 s2 s3 HO2 K1 K2 HB HNM HRR HEN hz3 hb3 u1 u2 u3 v1 v2 v3
  generalize WW x = w3 at *
  go_wp2_with fail
  have hKeep : ∀ w1 w2 : World, (Kept w o d a b n w1 ∧ w3.heap.size ≤ w1.heap.size ∧ Below w3.heap.size w3 w1 ∧ w1.cell? ⟨w.heap.size, 0, none⟩ = some (.int .i64 o) ∧ w1.cell? ⟨w.heap.size, 1, none⟩ = some (.int .i64 d) ∧ w1.cell? ⟨w.heap.size, 2, none⟩ = some (.int .i64 a) ∧ w1.cell? ⟨w.heap.size, 3, none⟩ = some (.int .i64 b) ∧ w1.cell? ⟨w.heap.size, 4, none⟩ = some (.int .u32 n) ∧ (convert 28 9 (.slice Ab 8 cb)).run Tryd.prog w1 = .ok (.string R) w1) → Below w1.heap.size w1 w2 → (Kept w o d a b n w2 ∧ w3.heap.size ≤ w2.heap.size ∧ Below w3.heap.size w3 w2 ∧ w2.cell? ⟨w.heap.size, 0, none⟩ = some (.int .i64 o) ∧ w2.cell? ⟨w.heap.size, 1, none⟩ = some (.int .i64 d) ∧ w2.cell? ⟨w.heap.size, 2, none⟩ = some (.int .i64 a) ∧ w2.cell? ⟨w.heap.size, 3, none⟩ = some (.int .i64 b) ∧ w2.cell? ⟨w.heap.size, 4, none⟩ = some (.int .u32 n) ∧ (convert 28 9 (.slice Ab 8 cb)).run Tryd.prog w2 = .ok (.string R) w2) := fun w1 w2 h hb => by
    have k := h.1.keep hb
    have y1 := h.2.2.1.trans (hb.mono h.2.1)
    exact ⟨k, Nat.le_trans h.2.1 hb.size, y1, k.1.1, k.1.2.1, k.1.2.2.1, k.1.2.2.2.1, k.1.2.2.2.2, HCV.out _ _ _ _ (own_below HO3.out y1)⟩
  have hStart : Kept w o d a b n w3.drew ∧ w3.heap.size ≤ w3.drew.heap.size ∧ Below w3.heap.size w3 w3.drew ∧ w3.drew.cell? ⟨w.heap.size, 0, none⟩ = some (.int .i64 o) ∧ w3.drew.cell? ⟨w.heap.size, 1, none⟩ = some (.int .i64 d) ∧ w3.drew.cell? ⟨w.heap.size, 2, none⟩ = some (.int .i64 a) ∧ w3.drew.cell? ⟨w.heap.size, 3, none⟩ = some (.int .i64 b) ∧ w3.drew.cell? ⟨w.heap.size, 4, none⟩ = some (.int .u32 n) ∧ (convert 28 9 (.slice Ab 8 cb)).run Tryd.prog w3.drew = .ok (.string R) w3.drew := ⟨K3.out.drew, Nat.le_refl _, (Below.refl _ _).drew, K3.out.1.1, K3.out.1.2.1, K3.out.1.2.2.1, K3.out.1.2.2.2.1, K3.out.1.2.2.2.2, HCV.out _ _ _ _ (own_below HO3.out (Below.refl _ _).drew)⟩
  have HKeep := Lib.hid hKeep
  have HStart := Lib.hid hStart
  have HTX2 := Lib.hid (fun (w' : World) (h : Kept w o d a b n w' ∧ w3.heap.size ≤ w'.heap.size ∧ Below w3.heap.size w3 w' ∧ w'.cell? ⟨w.heap.size, 0, none⟩ = some (.int .i64 o) ∧ w'.cell? ⟨w.heap.size, 1, none⟩ = some (.int .i64 d) ∧ w'.cell? ⟨w.heap.size, 2, none⟩ = some (.int .i64 a) ∧ w'.cell? ⟨w.heap.size, 3, none⟩ = some (.int .i64 b) ∧ w'.cell? ⟨w.heap.size, 4, none⟩ = some (.int .u32 n) ∧ (convert 28 9 (.slice Ab 8 cb)).run Tryd.prog w' = .ok (.string R) w') => HTX.out w' ((HT.out.on h.1.2.2).up (Nat.le_of_lt h.1.2.1)))
  clear hKeep hStart
  refine wp_region_held_drew (S := fun w' => Kept w o d a b n w' ∧ w3.heap.size ≤ w'.heap.size ∧ Below w3.heap.size w3 w' ∧ w'.cell? ⟨w.heap.size, 0, none⟩ = some (.int .i64 o) ∧ w'.cell? ⟨w.heap.size, 1, none⟩ = some (.int .i64 d) ∧ w'.cell? ⟨w.heap.size, 2, none⟩ = some (.int .i64 a) ∧ w'.cell? ⟨w.heap.size, 3, none⟩ = some (.int .i64 b) ∧ w'.cell? ⟨w.heap.size, 4, none⟩ = some (.int .u32 n) ∧ (convert 28 9 (.slice Ab 8 cb)).run Tryd.prog w' = .ok (.string R) w') (by kernel_rfl) HStart.out (fun hHeld => ?_)
  try dsimp only
  refine' wpAnyH_take (i := 0) (v := _) rfl (by kernel_rfl) (by kernel_rfl) (by kernel_rfl) (fun _ _ _ h => h) (Or.inl ⟨by rfl, ?hy0⟩) hHeld ?_
  case hy0 => (intro w hSw; (try dsimp only at hSw); go_simp; (try with_reducible rfl))
  (try simp only [Act.put, List.getElem_toArray, List.getElem_cons_succ, List.getElem_cons_zero, List.setIfInBounds_toArray, List.set_cons_zero, List.set_cons_succ])
  refine' wpAnyH_take (i := 2) (v := _) rfl (by kernel_rfl) (by kernel_rfl) (by kernel_rfl) (fun _ _ _ h => h) (Or.inl ⟨by rfl, ?hy2⟩) hHeld ?_
  case hy2 => (intro w hSw; (try dsimp only at hSw); go_simp; (try with_reducible rfl))
  (try simp only [Act.put, List.getElem_toArray, List.getElem_cons_succ, List.getElem_cons_zero, List.setIfInBounds_toArray, List.set_cons_zero, List.set_cons_succ])
  refine wpAnyH_ready (rs := [1]) (by kernel_rfl) (by simp) ?_
  refine AllReadyH.cons rfl (fun K hK => ?_) AllReadyH.nil
  go_simp
  (go_at_call 19; refine (HRI.out _).mono ?_; rintro e w4 ⟨rfl, hb4⟩)
  refine hK.out _ _ (HKeep.out _ _ hHeld hb4) (fun hHeld => ?_)
  clear hK K hb4
  (try simp only [Act.put, List.getElem_toArray, List.getElem_cons_succ, List.getElem_cons_zero, List.setIfInBounds_toArray, List.set_cons_zero, List.set_cons_succ])
  refine' wpAnyH_take (i := 3) (v := _) rfl (by kernel_rfl) (by kernel_rfl) (by kernel_rfl) (fun _ _ _ h => h) (Or.inl ⟨by rfl, ?hy3⟩) hHeld ?_
  case hy3 => (intro w hSw; (try dsimp only at hSw); go_simp; (try with_reducible rfl))
  (try simp only [Act.put, List.getElem_toArray, List.getElem_cons_succ, List.getElem_cons_zero, List.setIfInBounds_toArray, List.set_cons_zero, List.set_cons_succ])
  refine' wpAnyH_take (i := 4) (v := _) rfl (by kernel_rfl) (by kernel_rfl) (by kernel_rfl) (fun _ _ _ h => h) (Or.inl ⟨by rfl, ?hy4⟩) hHeld ?_
  case hy4 => (intro w hSw; (try dsimp only at hSw); go_simp; (try with_reducible rfl))
  (try simp only [Act.put, List.getElem_toArray, List.getElem_cons_succ, List.getElem_cons_zero, List.setIfInBounds_toArray, List.set_cons_zero, List.set_cons_succ])
  refine' wpAnyH_take (i := 5) (v := _) rfl (by kernel_rfl) (by kernel_rfl) (by kernel_rfl) (fun _ _ _ h => h) (Or.inl ⟨by rfl, ?hy5⟩) hHeld ?_
  case hy5 => (intro w hSw; (try dsimp only at hSw); go_simp; (try with_reducible rfl))
  (try simp only [Act.put, List.getElem_toArray, List.getElem_cons_succ, List.getElem_cons_zero, List.setIfInBounds_toArray, List.set_cons_zero, List.set_cons_succ])
  refine' wpAnyH_take (i := 7) (v := _) rfl (by kernel_rfl) (by kernel_rfl) (by kernel_rfl) (fun _ _ _ h => h) (Or.inl ⟨by rfl, ?hy7⟩) hHeld ?_
  case hy7 => (intro w hSw; (try dsimp only at hSw); go_simp; (try with_reducible rfl))
  (try simp only [Act.put, List.getElem_toArray, List.getElem_cons_succ, List.getElem_cons_zero, List.setIfInBounds_toArray, List.set_cons_zero, List.set_cons_succ])
  refine wpAnyH_ready (rs := [6]) (by kernel_rfl) (by simp) ?_
  refine AllReadyH.cons rfl (fun K hK => ?_) AllReadyH.nil
  go_simp
  (go_at_call 13; refine (HTX2.out _ hHeld).mono ?_; rintro e w5 ⟨rfl, hb5⟩)
  refine hK.out _ _ (HKeep.out _ _ hHeld hb5) (fun hHeld => ?_)
  clear hK K hb5
  (try simp only [Act.put, List.getElem_toArray, List.getElem_cons_succ, List.getElem_cons_zero, List.setIfInBounds_toArray, List.set_cons_zero, List.set_cons_succ])
  refine' wpAnyH_take (i := 8) (v := _) rfl (by kernel_rfl) (by kernel_rfl) (by kernel_rfl) (fun _ _ _ h => h) (Or.inl ⟨by rfl, ?hy8⟩) hHeld ?_
  case hy8 => (intro w hSw; (try dsimp only at hSw); go_simp; (try with_reducible rfl))
  (try simp only [Act.put, List.getElem_toArray, List.getElem_cons_succ, List.getElem_cons_zero, List.setIfInBounds_toArray, List.set_cons_zero, List.set_cons_succ])
  refine' wpAnyH_take (i := 9) (v := _) rfl (by kernel_rfl) (by kernel_rfl) (by kernel_rfl) (fun _ _ _ h => h) (Or.inl ⟨by rfl, ?hy9⟩) hHeld ?_
  case hy9 => (intro w hSw; (try dsimp only at hSw); go_simp; (try with_reducible rfl))
  (try simp only [Act.put, List.getElem_toArray, List.getElem_cons_succ, List.getElem_cons_zero, List.setIfInBounds_toArray, List.set_cons_zero, List.set_cons_succ])
  refine' wpAnyH_take (i := 10) (v := _) rfl (by kernel_rfl) (by kernel_rfl) (by kernel_rfl) (fun _ _ _ h => h) (Or.inl ⟨by rfl, ?hy10⟩) hHeld ?_
  case hy10 => (intro w hSw; (try dsimp only at hSw); go_simp; (try with_reducible rfl))
  (try simp only [Act.put, List.getElem_toArray, List.getElem_cons_succ, List.getElem_cons_zero, List.setIfInBounds_toArray, List.set_cons_zero, List.set_cons_succ])
  refine' wpAnyH_take (i := 11) (v := _) rfl (by kernel_rfl) (by kernel_rfl) (by kernel_rfl) (fun _ _ _ h => h) (Or.inl ⟨by rfl, ?hy11⟩) hHeld ?_
  case hy11 => (intro w hSw; (try dsimp only at hSw); go_simp; (try with_reducible rfl))
  (try simp only [Act.put, List.getElem_toArray, List.getElem_cons_succ, List.getElem_cons_zero, List.setIfInBounds_toArray, List.set_cons_zero, List.set_cons_succ])
  refine' wpAnyH_take (i := 12) (v := _) rfl (by kernel_rfl) (by kernel_rfl) (by kernel_rfl) (fun _ _ _ h => h) (Or.inl ⟨by rfl, ?hy12⟩) hHeld ?_
  case hy12 => (intro w hSw; (try dsimp only at hSw); go_simp; (try with_reducible rfl))
  (try simp only [Act.put, List.getElem_toArray, List.getElem_cons_succ, List.getElem_cons_zero, List.setIfInBounds_toArray, List.set_cons_zero, List.set_cons_succ])
  refine' wpAnyH_take (i := 13) (v := _) rfl (by kernel_rfl) (by kernel_rfl) (by kernel_rfl) (fun _ _ _ h => h) (Or.inl ⟨by rfl, ?hy13⟩) hHeld ?_
  case hy13 => (intro w hSw; (try dsimp only at hSw); go_simp; (try with_reducible rfl))
  (try simp only [Act.put, List.getElem_toArray, List.getElem_cons_succ, List.getElem_cons_zero, List.setIfInBounds_toArray, List.set_cons_zero, List.set_cons_succ])
  refine' wpAnyH_take (i := 14) (v := _) rfl (by kernel_rfl) (by kernel_rfl) (by kernel_rfl) (fun _ _ _ h => h) (Or.inl ⟨by rfl, ?hy14⟩) hHeld ?_
  case hy14 => (intro w hSw; (try dsimp only at hSw); go_simp; (try with_reducible rfl))
  (try simp only [Act.put, List.getElem_toArray, List.getElem_cons_succ, List.getElem_cons_zero, List.setIfInBounds_toArray, List.set_cons_zero, List.set_cons_succ])
  refine' wpAnyH_take (i := 15) (v := _) rfl (by kernel_rfl) (by kernel_rfl) (by kernel_rfl) (fun _ _ _ h => h) (Or.inl ⟨by rfl, ?hy15⟩) hHeld ?_
  case hy15 => (intro w hSw; (try dsimp only at hSw); go_simp; (try with_reducible rfl))
  (try simp only [Act.put, List.getElem_toArray, List.getElem_cons_succ, List.getElem_cons_zero, List.setIfInBounds_toArray, List.set_cons_zero, List.set_cons_succ])
  refine' wpAnyH_take (i := 16) (v := _) rfl (by kernel_rfl) (by kernel_rfl) (by kernel_rfl) (fun _ _ _ h => h) (Or.inl ⟨by rfl, ?hy16⟩) hHeld ?_
  case hy16 => (intro w hSw; (try dsimp only at hSw); go_simp; (try with_reducible rfl))
  (try simp only [Act.put, List.getElem_toArray, List.getElem_cons_succ, List.getElem_cons_zero, List.setIfInBounds_toArray, List.set_cons_zero, List.set_cons_succ])
  refine' wpAnyH_take (i := 17) (v := _) rfl (by kernel_rfl) (by kernel_rfl) (by kernel_rfl) (fun _ _ _ h => h) (Or.inl ⟨by rfl, ?hy17⟩) hHeld ?_
  case hy17 => (intro w hSw; (try dsimp only at hSw); go_simp; (try with_reducible rfl))
  (try simp only [Act.put, List.getElem_toArray, List.getElem_cons_succ, List.getElem_cons_zero, List.setIfInBounds_toArray, List.set_cons_zero, List.set_cons_succ])
  refine' wpAnyH_take (i := 18) (v := _) rfl (by kernel_rfl) (by kernel_rfl) (by kernel_rfl) (fun _ _ _ h => h) (Or.inl ⟨by rfl, ?hy18⟩) hHeld ?_
  case hy18 => (intro w hSw; (try dsimp only at hSw); go_simp; (try with_reducible rfl))
  (try simp only [Act.put, List.getElem_toArray, List.getElem_cons_succ, List.getElem_cons_zero, List.setIfInBounds_toArray, List.set_cons_zero, List.set_cons_succ])
  refine' wpAnyH_take (i := 19) (v := _) rfl (by kernel_rfl) (by kernel_rfl) (by kernel_rfl) (fun _ _ _ h => h) (Or.inl ⟨by rfl, ?hy19⟩) hHeld ?_
  case hy19 => (intro w hSw; (try dsimp only at hSw); go_simp; (try with_reducible rfl))
  (try simp only [Act.put, List.getElem_toArray, List.getElem_cons_succ, List.getElem_cons_zero, List.setIfInBounds_toArray, List.set_cons_zero, List.set_cons_succ])
  refine' wpAnyH_take (i := 20) (v := _) rfl (by kernel_rfl) (by kernel_rfl) (by kernel_rfl) (fun _ _ _ h => h) (Or.inl ⟨by rfl, ?hy20⟩) hHeld ?_
  case hy20 => (intro w hSw; (try dsimp only at hSw); go_simp; (try with_reducible rfl))
  (try simp only [Act.put, List.getElem_toArray, List.getElem_cons_succ, List.getElem_cons_zero, List.setIfInBounds_toArray, List.set_cons_zero, List.set_cons_succ])
  refine' wpAnyH_take (i := 21) (v := _) rfl (by kernel_rfl) (by kernel_rfl) (by kernel_rfl) (fun _ _ _ h => h) (Or.inl ⟨by rfl, ?hy21⟩) hHeld ?_
  case hy21 => (intro w hSw; (try dsimp only at hSw); go_simp; (try with_reducible rfl))
  (try simp only [Act.put, List.getElem_toArray, List.getElem_cons_succ, List.getElem_cons_zero, List.setIfInBounds_toArray, List.set_cons_zero, List.set_cons_succ])
  refine wpAnyH_ready (rs := [22]) (by kernel_rfl) (by simp) ?_
  refine AllReadyH.cons rfl (fun K hK => ?_) AllReadyH.nil
  go_simp
  (go_at_call 9; refine (HRE.out _).mono ?_; rintro e w6 ⟨rfl, hox, hb6⟩; have hc7 := HCV.out _ _ _ _ hox; clear hox)
  refine hK.out _ _ (HKeep.out _ _ hHeld hb6) (fun hHeld => ?_)
  clear hK K hb6
  (try simp only [Act.put, List.getElem_toArray, List.getElem_cons_succ, List.getElem_cons_zero, List.setIfInBounds_toArray, List.set_cons_zero, List.set_cons_succ])
  refine wpAnyH_ready (rs := [23]) (by kernel_rfl) (by simp) ?_
  refine AllReadyH.cons rfl (fun K hK => ?_) AllReadyH.nil
  go_simp
  refine hK.out _ _ hHeld (fun hHeld => ?_)
  clear hK K
  (try simp only [Act.put, List.getElem_toArray, List.getElem_cons_succ, List.getElem_cons_zero, List.setIfInBounds_toArray, List.set_cons_zero, List.set_cons_succ])
  refine' wpAnyH_take (i := 24) (v := _) rfl (by kernel_rfl) (by kernel_rfl) (by kernel_rfl) (fun _ _ _ h => h) (Or.inl ⟨by rfl, ?hy24⟩) hHeld ?_
  case hy24 => (intro w hSw; (try dsimp only at hSw); go_simp; (try with_reducible rfl))
  (try simp only [Act.put, List.getElem_toArray, List.getElem_cons_succ, List.getElem_cons_zero, List.setIfInBounds_toArray, List.set_cons_zero, List.set_cons_succ])
  refine' wpAnyH_take (i := 25) (v := _) rfl (by kernel_rfl) (by kernel_rfl) (by kernel_rfl) (fun _ _ _ h => h) (Or.inl ⟨by rfl, ?hy25⟩) hHeld ?_
  case hy25 => (intro w hSw; (try dsimp only at hSw); go_simp; (try with_reducible rfl))
  (try simp only [Act.put, List.getElem_toArray, List.getElem_cons_succ, List.getElem_cons_zero, List.setIfInBounds_toArray, List.set_cons_zero, List.set_cons_succ])
  refine' wpAnyH_take (i := 26) (v := _) rfl (by kernel_rfl) (by kernel_rfl) (by kernel_rfl) (fun _ _ _ h => h) (Or.inl ⟨by rfl, ?hy26⟩) hHeld ?_
  case hy26 => (intro w hSw; (try dsimp only at hSw); go_simp; (try with_reducible rfl))
  (try simp only [Act.put, List.getElem_toArray, List.getElem_cons_succ, List.getElem_cons_zero, List.setIfInBounds_toArray, List.set_cons_zero, List.set_cons_succ])
  refine wpAnyH_take (i := 27) (v := undef) rfl (by kernel_rfl) (by kernel_rfl) (by kernel_rfl) (fun _ _ _ h => h) (Or.inr ⟨by rfl, rfl⟩) hHeld ?_
  (try simp only [Act.put, List.getElem_toArray, List.getElem_cons_succ, List.getElem_cons_zero, List.setIfInBounds_toArray, List.set_cons_zero, List.set_cons_succ])
  refine wpAnyH_take (i := 28) (v := undef) rfl (by kernel_rfl) (by kernel_rfl) (by kernel_rfl) (fun _ _ _ h => h) (Or.inr ⟨by rfl, rfl⟩) hHeld ?_
  (try simp only [Act.put, List.getElem_toArray, List.getElem_cons_succ, List.getElem_cons_zero, List.setIfInBounds_toArray, List.set_cons_zero, List.set_cons_succ])
  refine wpAnyH_take (i := 29) (v := undef) rfl (by kernel_rfl) (by kernel_rfl) (by kernel_rfl) (fun _ _ _ h => h) (Or.inr ⟨by rfl, rfl⟩) hHeld ?_
  (try simp only [Act.put, List.getElem_toArray, List.getElem_cons_succ, List.getElem_cons_zero, List.setIfInBounds_toArray, List.set_cons_zero, List.set_cons_succ])
  refine wpAnyH_take (i := 30) (v := undef) rfl (by kernel_rfl) (by kernel_rfl) (by kernel_rfl) (fun _ _ _ h => h) (Or.inr ⟨by rfl, rfl⟩) hHeld ?_
  (try simp only [Act.put, List.getElem_toArray, List.getElem_cons_succ, List.getElem_cons_zero, List.setIfInBounds_toArray, List.set_cons_zero, List.set_cons_succ])
  refine wpAnyH_take (i := 31) (v := undef) rfl (by kernel_rfl) (by kernel_rfl) (by kernel_rfl) (fun _ _ _ h => h) (Or.inr ⟨by rfl, rfl⟩) hHeld ?_
  (try simp only [Act.put, List.getElem_toArray, List.getElem_cons_succ, List.getElem_cons_zero, List.setIfInBounds_toArray, List.set_cons_zero, List.set_cons_succ])
  refine wpAnyH_take (i := 32) (v := undef) rfl (by kernel_rfl) (by kernel_rfl) (by kernel_rfl) (fun _ _ _ h => h) (Or.inr ⟨by rfl, rfl⟩) hHeld ?_
  (try simp only [Act.put, List.getElem_toArray, List.getElem_cons_succ, List.getElem_cons_zero, List.setIfInBounds_toArray, List.set_cons_zero, List.set_cons_succ])
  refine wpAnyH_take (i := 33) (v := undef) rfl (by kernel_rfl) (by kernel_rfl) (by kernel_rfl) (fun _ _ _ h => h) (Or.inr ⟨by rfl, rfl⟩) hHeld ?_
  (try simp only [Act.put, List.getElem_toArray, List.getElem_cons_succ, List.getElem_cons_zero, List.setIfInBounds_toArray, List.set_cons_zero, List.set_cons_succ])
  refine wpAnyH_take (i := 34) (v := undef) rfl (by kernel_rfl) (by kernel_rfl) (by kernel_rfl) (fun _ _ _ h => h) (Or.inr ⟨by rfl, rfl⟩) hHeld ?_
  (try simp only [Act.put, List.getElem_toArray, List.getElem_cons_succ, List.getElem_cons_zero, List.setIfInBounds_toArray, List.set_cons_zero, List.set_cons_succ])
  refine wpAnyH_take (i := 35) (v := undef) rfl (by kernel_rfl) (by kernel_rfl) (by kernel_rfl) (fun _ _ _ h => h) (Or.inr ⟨by rfl, rfl⟩) hHeld ?_
  (try simp only [Act.put, List.getElem_toArray, List.getElem_cons_succ, List.getElem_cons_zero, List.setIfInBounds_toArray, List.set_cons_zero, List.set_cons_succ])
  refine wpAnyH_take (i := 36) (v := undef) rfl (by kernel_rfl) (by kernel_rfl) (by kernel_rfl) (fun _ _ _ h => h) (Or.inr ⟨by rfl, rfl⟩) hHeld ?_
  (try simp only [Act.put, List.getElem_toArray, List.getElem_cons_succ, List.getElem_cons_zero, List.setIfInBounds_toArray, List.set_cons_zero, List.set_cons_succ])
  refine wpAnyH_take (i := 37) (v := undef) rfl (by kernel_rfl) (by kernel_rfl) (by kernel_rfl) (fun _ _ _ h => h) (Or.inr ⟨by rfl, rfl⟩) hHeld ?_
  (try simp only [Act.put, List.getElem_toArray, List.getElem_cons_succ, List.getElem_cons_zero, List.setIfInBounds_toArray, List.set_cons_zero, List.set_cons_succ])
  refine' wpAnyH_take (i := 38) (v := _) rfl (by kernel_rfl) (by kernel_rfl) (by kernel_rfl) (fun _ _ _ h => h) (Or.inl ⟨by rfl, ?hy38⟩) hHeld ?_
  case hy38 => (intro w hSw; (try dsimp only at hSw); go_simp; (try with_reducible rfl))
  (try simp only [Act.put, List.getElem_toArray, List.getElem_cons_succ, List.getElem_cons_zero, List.setIfInBounds_toArray, List.set_cons_zero, List.set_cons_succ])
  refine' wpAnyH_take (i := 39) (v := _) rfl (by kernel_rfl) (by kernel_rfl) (by kernel_rfl) (fun _ _ _ h => h) (Or.inl ⟨by rfl, ?hy39⟩) hHeld ?_
  case hy39 => (intro w hSw; (try dsimp only at hSw); go_simp; (try with_reducible rfl))
  (try simp only [Act.put, List.getElem_toArray, List.getElem_cons_succ, List.getElem_cons_zero, List.setIfInBounds_toArray, List.set_cons_zero, List.set_cons_succ])
  refine' wpAnyH_take (i := 40) (v := _) rfl (by kernel_rfl) (by kernel_rfl) (by kernel_rfl) (fun _ _ _ h => h) (Or.inl ⟨by rfl, ?hy40⟩) hHeld ?_
  case hy40 => (intro w hSw; (try dsimp only at hSw); go_simp; (try with_reducible rfl))
  (try simp only [Act.put, List.getElem_toArray, List.getElem_cons_succ, List.getElem_cons_zero, List.setIfInBounds_toArray, List.set_cons_zero, List.set_cons_succ])
  refine wpAnyH_done (by kernel_rfl) ?_ _
  obtain ⟨⟨-, -, fb⟩, -⟩ := hHeld
  clear HCV HRI HRE HT HTX HTX2 HKeep HStart HO3 hc7
  go_wp2_with fail
  go_ret
  exact ⟨rfl, fb⟩
end Go.Proofs.YthobedekeebadaaDoor

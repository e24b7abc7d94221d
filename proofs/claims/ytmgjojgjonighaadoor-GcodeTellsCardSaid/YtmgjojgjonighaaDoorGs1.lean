/-
  innkeeperlaw2.same returns true.
-/
import Derived.Test.YtmgjojgjonighaaDoorGr1
import Derived.Test.YtmgjojgjonighaaDoorGk1
import Derived.Test.YtmgjojgjonighaaDoorGc10
import Derived.Deep.RegionHeld3
import Derived.Deep.QuietTactic
import Derived.BigQuiet
import Derived.Outline
import Derived.Test.YtmgjojgjonighaaDoorClass
import Derived.Deep.RegionWith
namespace Go.Proofs.YtmgjojgjonighaaDoor
open Go.RowKit
set_option linter.unusedSimpArgs false
set_option linter.unusedVariables false

theorem quiet_left {P : Program} {f : FuncId} {args : Array Value} {w : World} {n : Nat} {v : Value}
    (h : Calls P f args (w.drewN n) fun e w' => e = .returned v ∧ w.drewN n = w') : Calls P f args (w.drewN n) fun e w'' => e = .returned v ∧ ∃ m, w'' = w.drewN m :=
  h.mono fun _ _ ⟨he, hm⟩ => ⟨he, n, hm.symm⟩

set_option maxRecDepth 100000 in
set_option maxHeartbeats 2000000 in
theorem same_not (op n : Int) (hk : okV op n = false) (n0 : 0 ≤ n) (n1 : n < 4294967296) (w : World) (ht : Tab w.heap.size w) :
    Calls Tryd.prog 9 #[.agg #[.int .i64 op, .int .u32 n]] w fun e w' => e = .returned (.bool true) ∧ Below w.heap.size w w' := by
  have hen := encode_not op n hk n0
  have hrr := rright_any op n n0
  have hri := right_any op n n0
  rw [hk] at hrr hri
  have htx := fun (W : World) (hW : Tab W.heap.size W) => text_any op n n0 n1 W hW
  rw [show txV op n = [63] by simp [txV, hk]] at htx
  have HEN := Lib.hid hen
  have HRR := Lib.hid hrr
  have HRI := Lib.hid hri
  have HTX := Lib.hid htx
  have HT := Lib.hid ht
  have HB := Lib.hid (box2_new w (.int .i64 op) (.int .u32 n) 26)
  clear hen hrr hri htx ht hk
  go_enter Tryd.func9, Tryd.ntmps9
  go_wp2_with fail
  refine (HEN.out _).mono ?_
  rintro e w1 ⟨rfl, hb⟩
  obtain ⟨c0, c1, cs, cb⟩ := box2_keep HB.out hb
  clear hb
  go_wp2_with fail
  refine (HRR.out _).mono ?_
  rintro e w2 ⟨rfl, hb⟩
  obtain ⟨d0, d1, ds, db⟩ := box2_keep ⟨c0, c1, cs, cb⟩ hb
  clear hb c0 c1 cs cb
  go_wp2_with fail
  obtain ⟨ι, WW, hne, hS, hall⟩ := class_of (fun w' => w'.cell? ⟨w.heap.size, 0, none⟩ = some (.int .i64 op) ∧ w'.cell? ⟨w.heap.size, 1, none⟩ = some (.int .u32 n) ∧ w.heap.size < w'.heap.size ∧ Below w.heap.size w w') w2 ⟨d0, d1, ds, db⟩
  have g0 := fun x => (hS x).1
  have g1 := fun x => (hS x).2.1
  have HS := Lib.hid hS
  have HALL := Lib.hid hall
  have qR : ∀ x, Calls Tryd.prog 23 #[.agg #[.int .i64 op, .int .u32 n]] (WW x) fun e w' => e = .returned (.bool false) ∧ ∃ y, w' = WW y := fun x =>
    (HRI.out (WW x)).mono fun e w' ⟨he, hb⟩ => ⟨he, hall _ (box2_keep (hS x) hb)⟩
  have qT : ∀ x, Calls Tryd.prog 24 #[.agg #[.int .i64 op, .int .u32 n]] (WW x) fun e w' => e = .returned (.string ⟨#[63]⟩) ∧ ∃ y, w' = WW y := fun x =>
    (HTX.out (WW x) ((HT.out.on (hS x).2.2.2).up (Nat.le_of_lt (hS x).2.2.1))).mono fun e w' ⟨he, hb⟩ => ⟨he, hall _ (box2_keep (hS x) hb)⟩
  have HQR := Lib.hid qR
  have HQT := Lib.hid qT
  have hst : ∃ x, w2.drew = WW x := hall _ ⟨d0, d1, ds, db.drew⟩
  have HST := Lib.hid hst
  clear hS hall qR qT hst
  refine wp_region_class WW (by kernel_rfl) (by kernel_rfl) HST.out ?_
  repeat quiet_step ((first | (go_at_call 23; exact HQR.out _) | (go_at_call 24; exact HQT.out _)))
  refine wpQuiet_nil ?_
  rintro _ ⟨x, rfl⟩
  obtain ⟨c0, c1, cs, cb⟩ := HS.out x
  clear g0 g1 HQR HQT HST HS HALL hne d0 d1 ds db
  generalize WW x = w3 at *
  go_wp2_with fail
  go_quiet ((first
    | (go_at_call 15; exact quiet_left (size_any _ _))
    | (go_at_call 29; exact quiet_left (rsize_any _ _))
    | (go_at_call 21; exact quiet_left (ends_any _ _))
    | (go_at_call 32; exact quiet_left (rends_any _ _))
    | (go_at_call 22; exact quiet_left (plain_any _ _))
    | (go_at_call 33; exact quiet_left (rplain_any _ _))
    | (go_at_call 20; exact quiet_left (super_any _ _))
    | (go_at_call 34; exact quiet_left (rsuper_any _ _))))
  go_wp2
  go_ret
  exact ⟨rfl, Below_drewN cb nq⟩
end Go.Proofs.YtmgjojgjonighaaDoor

/-
  innkeeperlaw8's known: A CONTRACT.
-/
import Derived.Test.YtoejpdhcibbgdaaWb
import Derived.Test.YtoejpdhcibbgdaaWc
import Derived.Test.YtoejpdhcibbgdaaWsa
namespace Go.Proofs.Ytoejpdhcibbgdaa
open Go.RowKit
set_option linter.unusedSimpArgs false
set_option linter.unusedVariables false

def knQ : List Ap := [⟨0, 1, 257⟩, ⟨16, 2, 259⟩]
def knX : Rm := btX 8 (rowL (tbF knQ 2) 512)
theorem kw1 : knX.doB 0 5 2 true = true ∧ knX.us 0 5 2 / 256 = 2 := by decide +kernel
theorem kw2 : (knX.doS 0 5 2 true).wdV 64 = 547 ∧ decide (64 + 4 ≤ (knX.doS 0 5 2 true).n * 64) = true := by decide +kernel
theorem kw3 : (knX.doS 0 5 2 true).doB 0 16384 2 true = false := by decide +kernel
theorem knQ_in : ∀ q ∈ knQ, q.In := by
  intro q hq
  simp only [knQ, List.mem_cons, List.not_mem_nil, or_false] at hq
  rcases hq with rfl | rfl <;> exact ⟨rfl, rfl, rfl⟩
set_option maxRecDepth 100000 in
set_option maxHeartbeats 2000000 in
theorem known8_any (w : World) :
    Calls Try.prog 15 #[] w fun e w' => e = .returned (.bool true) ∧ Below w.heap.size w w' := by
  have hb0 : Below w.heap.size w (w.alloc (.cells #[.int .i64 0, .int .i64 1, .int .u32 257, .int .i64 16, .int .i64 2, .int .u32 259] 32)) := (Below.refl _ _).alloc (Nat.le_refl _) _
  have hrp : RdP (w.alloc (.cells #[.int .i64 0, .int .i64 1, .int .u32 257, .int .i64 16, .int .i64 2, .int .u32 259] 32)) (some ⟨w.heap.size, 0, none⟩) knQ := fun _ => by
    refine ⟨w.heap.size, 0, rfl, by simp, fun i hi j u hu => ?_⟩
    have hi : i < 2 := hi
    have hb := Blk.new w 32 #[.int .i64 0, .int .i64 1, .int .u32 257, .int .i64 16, .int .i64 2, .int .u32 259]
    rcases (show i = 0 ∨ i = 1 by omega) with rfl | rfl
    all_goals
      have hj : j < 3 := (List.getElem?_eq_some_iff.1 hu).1
      rcases (show j = 0 ∨ j = 1 ∨ j = 2 by omega) with rfl | rfl | rfl
      all_goals
        cases hu
        exact (hb.cell _)
  have htb := tables_any (some ⟨w.heap.size, 0, none⟩) 2 2 knQ rfl (by omega) _ hrp knQ_in
  rw [show min 2 40 = 2 from rfl] at htb
  have HTB := Lib.hid htb
  have HB0 := Lib.hid hb0
  have hbd : ∀ j, j < 512 → 0 ≤ tbF knQ 2 j ∧ tbF knQ 2 j < 256 := fun j _ => tbF_bd knQ_in 2 (by decide) j
  have HBD := Lib.hid hbd
  unfold NewB at HTB
  clear hb0 hrp htb hbd
  go_enter Try.func15, Try.ntmps15
  go_wp2_with (first
    | (go_at_call 12; refine HTB.out.mono ?_; rintro e wa ⟨g, rfl, hg, hB, hba⟩
       have HA := Lib.hid (HB0.out.trans (hba.mono (HB0.out.size)))
       have HR := Lib.hid (show Rd wa wa.heap.size (some ⟨g, 0, none⟩) (ub (rowL (tbF knQ 2) 512)) from hB.rd)
       clear hg hB hba HTB HB0)
    | (go_at_call 11
       refine (both_any (some ⟨g, 0, none⟩) 512 512 8 (rowL (tbF knQ 2) 512) (rowL_len _ _).symm (rowL_mem HBD.out) (by omega) (by omega) (by omega) wa HR.out).mono ?_
       rintro e wb ⟨p, q, b, t, rfl, hP⟩
       have HP := Lib.hid (show Pr wa wa.heap.size p q b t wb knX knX from hP)
       clear hP HR HBD)
    | (go_at_call 14
       have hd := do_any 0 5 (by omega) (by omega) 2 true wb HP.out.d.m
       rw [(do_yes kw1.1).2.1, (do_yes kw1.1).2.2, kw1.2, show 5 / 64 = 0 from rfl] at hd
       unfold enV trV at hd
       have HK := Lib.hid kw2
       have HK3 := Lib.hid kw3
       generalize knX.doS 0 5 2 true = X1 at *
       generalize knX.us 0 5 2 &&& 94 = u9 at *
       refine hd.mono ?_
       rintro e w1 ⟨rfl, h1, h2⟩
       have HP1 := Lib.hid (HP.out.left (Nat.le_refl _) h1 h2)
       clear hd h1 h2 HP)
    | (go_at_call 19
       have hb2 : Below w1.heap.size w1 ((w1.alloc (.cells #[.bool true, .int .u32 0, .int .u32 2, .int .u32 ((u9 : Nat) : Int)] 37)).alloc (.cells #[.int .i64 0, .int .u32 0] 39)) := ((Below.refl _ _).alloc (Nat.le_refl _) _).alloc (by simp) _
       have HP2 := Lib.hid (HP1.out.keep (Nat.le_refl _) hb2)
       have hR := res_new2 w1 (.bool true) (.int .u32 0) (.int .u32 2) (.int .u32 ((u9 : Nat) : Int)) (.int .i64 0) (.int .u32 0)
       have hw := wordM_any 64 (by omega) _ HP2.out.d.m
       rw [HK.out.1, HK.out.2] at hw
       refine hw.mono ?_
       rintro e wc ⟨rfl, m1, rfl⟩
       have HP3 := Lib.hid (HP2.out.keep (Nat.le_refl _) (Below_drewN (Below.refl _ _) m1))
       have HR3 := Lib.hid (hR.drewN m1)
       generalize ((w1.alloc (.cells #[.bool true, .int .u32 0, .int .u32 2, .int .u32 ((u9 : Nat) : Int)] 37)).alloc (.cells #[.int .i64 0, .int .u32 0] 39)).drewN m1 = w4 at *
       have HZ := Lib.hid HP1.out.d.m.z
       clear hb2 HP2 HP1 hR hw)
    | (go_at_call 14
       have hd := do_any 0 16384 (by omega) (by omega) 2 true w4 HP3.out.d.m
       rw [(do_no HK3.out).1, (do_no HK3.out).2.1, (do_no HK3.out).2.2, show (if isK 2 = true then ftV 2 else 10) = 8 from rfl] at hd
       unfold enV trV at hd
       refine hd.mono ?_
       rintro e w5 ⟨rfl, h1, h2⟩
       have HP5 := Lib.hid (HP3.out.left (Nat.le_refl _) h1 h2)
       have z := HZ.out
       have HR5 := Lib.hid (HR3.out.alt h2 ⟨by omega, by omega, by omega⟩ ⟨by omega, by omega, by omega⟩)
       have hb6 : ∀ A B, Below w5.heap.size w5 ((w5.alloc A).alloc B) := fun A B => ((Below.refl _ _).alloc (Nat.le_refl _) A).alloc (by simp) B
       have l1 := HR5.out.e.lt
       have l2 := HR5.out.t.lt
       have k0 := fun A B => ((HR5.out.e.below (hb6 A B) l1).cell 0)
       have k1 := fun A B => ((HR5.out.e.below (hb6 A B) l1).cell 1)
       have k2 := fun A B => ((HR5.out.e.below (hb6 A B) l1).cell 2)
       have k3 := fun A B => ((HR5.out.e.below (hb6 A B) l1).cell 3)
       have k4 := fun A B => ((HR5.out.t.below (hb6 A B) l2).cell 0)
       have k5 := fun A B => ((HR5.out.t.below (hb6 A B) l2).cell 1)
       clear hd h1 h2 HP3 z))
  go_ret
  exact ⟨rfl, HA.out.trans ((HP5.out.d.b.trans ((hb6 _ _).mono HP5.out.d.b.size)).mono HA.out.size)⟩
end Go.Proofs.Ytoejpdhcibbgdaa

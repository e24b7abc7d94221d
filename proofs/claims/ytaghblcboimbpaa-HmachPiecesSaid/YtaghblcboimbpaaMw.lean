/-
  innkeeperlaw4.known returns true: A CONTRACT.
-/
import Derived.Test.YtaghblcboimbpaaMd
import Derived.Test.YtaghblcboimbpaaMl
import Derived.Test.YtaghblcboimbpaaMa
import Derived.Test.YtaghblcboimbpaaMn
import Derived.Outline
namespace Go.Proofs.Ytaghblcboimbpaa
open Go.RowKit
set_option linter.unusedSimpArgs false
set_option linter.unusedVariables false

/-- a machine's frame behind Below -/
theorem turn_below {g h B : Nat} {w0 w w' : World} (x : Turn g h w w') (hb : Below B w0 w) (hB : B ≤ w.heap.size) (hg : B ≤ g) (hh : B ≤ h) : Below B w0 w' := x.below hg hh hb hB

def knL : List Hi := [⟨1, 1, 0, 0, 5⟩, ⟨19, 0, 0, 0, 7⟩]
theorem knL_in : ∀ p ∈ knL, p.In := by
  intro p hp
  simp only [knL, List.mem_cons, List.not_mem_nil, or_false] at hp
  rcases hp with rfl | rfl <;> (unfold Hi.In Hi.fit; simp)
theorem knL_md : md4s false knL = knL := by kernel_rfl
def knM : Mc := { mc0 4 with C := knL, p := 0 }
theorem knR : (rn 9 knM).how = 1 ∧ (rn 9 knM).imm = 7 ∧ (rn 9 knM).cnt = 1 ∧ (rn 9 knM).m.reg 1 = 5 := by
  refine ⟨?_, ?_, ?_, ?_⟩ <;> decide +kernel
theorem knRd (w : World) (T : TypeId) : RdI (w.alloc (.cells #[.int .i64 1, .int .i64 1, .int .i64 0, .int .i64 0, .int .u32 5, .int .i64 19, .int .i64 0, .int .i64 0, .int .i64 0, .int .u32 7] T)) (w.alloc (.cells #[.int .i64 1, .int .i64 1, .int .i64 0, .int .i64 0, .int .u32 5, .int .i64 19, .int .i64 0, .int .i64 0, .int .i64 0, .int .u32 7] T)).heap.size (some ⟨w.heap.size, 0, none⟩) knL := by
  refine RdI.of_rd fun _ => ⟨w.heap.size, 0, rfl, by simp, fun j u hu => ?_⟩
  rw [(Blk.new w T _).cell, Nat.zero_add]
  simpa [knL, ivs, Hi.cs] using hu

set_option maxRecDepth 100000 in
set_option maxHeartbeats 2000000 in
theorem known_any (w : World) :
    Calls Try.prog 19 #[] w fun e w' => e = .returned (.bool true) ∧ Below w.heap.size w w' := by
  go_enter Try.func19, Try.ntmps19
  go_wp2_with fail
  refine (new_any 4 4 rfl (by omega) (by omega) _).mono ?_
  rintro e w1 ⟨rfl, hb1, hz1, hM1⟩
  have hM := hM1 w1.heap.size (Nat.le_refl _)
  have hr0 := knRd w1 35
  have HB1 := Lib.hid hb1
  have HM := Lib.hid hM
  have HR := Lib.hid hr0
  have HZ := Lib.hid hz1
  clear hb1 hM1 hM hr0 hz1
  go_wp2_with fail
  refine (made_any (some ⟨w1.heap.size, 0, none⟩) 2 knL (by decide) false _ HR.out knL_in).mono ?_
  rintro e w2 ⟨A2, c2, rfl, ho2, hb2⟩
  rw [knL_md] at ho2 ⊢
  have hM2 := (HM.out.below (hb2.mono (by simp) |> fun h => ((Below.refl _ _).alloc (Nat.le_refl _) _).trans h))
  have hB2 := (HB1.out.alloc HB1.out.size (.cells #[.int .i64 1, .int .i64 1, .int .i64 0, .int .i64 0, .int .u32 5, .int .i64 19, .int .i64 0, .int .i64 0, .int .i64 0, .int .u32 7] 35)).trans (hb2.mono (by have := HB1.out.size; simp; omega))
  have hz2 := hb2.size
  simp only [World.size_alloc] at hz2
  have hcp := own_cap ho2
  have hrd := Rd.of_own ho2
  have hl2 : (encs knL).length = 8 * knL.length := encs_len knL
  have hlo := load_any _ _ _ _ A2 c2 (encs knL) (by rw [hl2]; exact hcp.1) hcp.2 (by decide) w2 (by omega) hM2 hrd
  have HLO := Lib.hid hlo
  have HB2 := Lib.hid hB2
  clear ho2 hb2 hM2 hB2 hcp hrd hlo HM HR HB1
  go_wp2_with fail
  refine HLO.out.mono ?_
  intro e w3 hld
  obtain ⟨rfl, hT3, A3, c3, hM3⟩ := hld.enc (fun p hp => by rw [← knL_md] at hp; exact md4s_ok false knL knL_in p hp)
  have hB3 := turn_below hT3 HB2.out HB2.out.size (by simp) (by simp)
  have hru := run_any _ _ _ _ 9 (by omega) w3 hM3
  have HRU := Lib.hid hru
  have HB3 := Lib.hid hB3
  clear hld hT3 hM3 hB3 hru HLO HB2
  go_wp2_with fail
  refine HRU.out.mono ?_
  rintro e w4 ⟨he, hM4, hT4⟩
  obtain ⟨k1, k2, k3, k4⟩ := knR
  have hB4 := turn_below hT4 HB3.out HB3.out.size (by simp) (by simp)
  have e9 : (9 : Int).toNat = 9 := rfl
  have ekn : ({ mc0 4 with C := knL, p := 0 } : Mc) = knM := rfl
  rw [e9, ekn] at he hM4
  rw [k1, k2, k3] at he
  subst he
  have hrg := reg_any 1 w4 hM4
  rw [k4] at hrg
  have HRG := Lib.hid hrg
  have HB4 := Lib.hid hB4
  clear hM4 hT4 hB4 hrg HRU HB3 k1 k2 k3 k4 e9 ekn
  go_wp2_with (go_at_call 25; refine HRG.out.mono ?_; rintro e w5 ⟨rfl, rfl⟩)
  go_ret
  exact ⟨rfl, HB4.out⟩
end Go.Proofs.Ytaghblcboimbpaa

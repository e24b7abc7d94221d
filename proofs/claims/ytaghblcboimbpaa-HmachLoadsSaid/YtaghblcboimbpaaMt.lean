/-
  (*innkeeperref4.Machine).Step: A CONTRACT.
-/
import Derived.Test.YtaghblcboimbpaaMs
import Derived.Deep.RegionHeld3
import Derived.Deep.QuietTactic
import Derived.BigQuiet
import Derived.Deep.Light
import Derived.StillTailTactics
import Derived.IntWalk
import Derived.Outline
namespace Go.Proofs.Ytaghblcboimbpaa
open Go.RowKit
set_option linter.unusedSimpArgs false
set_option linter.unusedVariables false

set_option maxRecDepth 100000 in
set_option maxHeartbeats 2000000 in
theorem rstep_bad (g : Nat) (A : Option Addr) (n c : Nat) (hn : n ≤ 1000) (p : Nat) (hp : n ≤ p) (hp1 : p < 4294967296) (w : World) (h1 : w.cell? ⟨g, 17, none⟩ = some (.slice A n c)) (h2 : w.cell? ⟨g, 18, none⟩ = some (.int .i64 p)) :
    Calls Try.prog 16 #[.pointer (some ⟨g, 0, none⟩)] w fun e w' => e = .returned (.int .i64 2) ∧ Below w.heap.size w w' := by
  have hpn : ((p : Int) < 0) = False := by simp
  have hpd : decide ((p : Int) < 0) = false := by simp
  go_enter Try.func16, Try.ntmps16
  go_wp2_with fail
  go_quiet (fail)
  go_wp2_with fail
  go_ret
  exact ⟨rfl, Below_drewN (Below.refl _ _) _⟩

set_option maxRecDepth 100000 in
set_option maxHeartbeats 2000000 in
theorem rstep_x (g gw gc off n c nW p : Nat) (hn : n ≤ 1000) (hp : p < n) (o : Int) (d a b : Nat) (m ra rb : Int) (ha : a < 16) (hb : b < 16) (hd : d < 16) (ho : 0 ≤ o ∧ o ≤ 19) (m0 : 0 ≤ m) (m1 : m < 4294967296) (ra0 : 0 ≤ ra) (rb0 : 0 ≤ rb) (w : World)
    (hx : Cx .i64 w g gw gc off n c nW p o d a b m ra rb) (T : TypeId) (B : Nat) (P : Mp) (M : Mc) (hM : IsM .i64 T B w P M) (hP : P.g = g ∧ P.gw = gw) (hq : Qx M n nW p o d a b m ra rb) :
    Calls Try.prog 16 #[.pointer (some ⟨g, 0, none⟩)] w (Stepped .i64 T B P M w) := by
  have HO := Lib.hid ho
  have HM := Lib.hid hM
  have HP := Lib.hid hP
  have HQ := Lib.hid hq
  clear ho hM hP hq
  have HX := Lib.hid hx
  have h1 := hx.h1
  have h2 := hx.h2
  clear hx
  have hpn : ((p : Int) < 0) = False := by simp
  have hpd : decide ((p : Int) < 0) = false := by simp
  go_enter Try.func16, Try.ntmps16
  go_wp2_with fail
  go_quiet (fail)
  go_wp2_with fail
  have hb1 : Below w.heap.size w (w.drewN nq) := Below_drewN (Below.refl _ _) _
  have hx1 := HX.out.below hb1
  clear h1 h2
  generalize w.drewN nq = W at *
  have HB1 := Lib.hid hb1
  have HX1 := Lib.hid hx1
  have f1 := hx1.h1
  have f2 := hx1.h2
  have d0 := hx1.e0
  have d1 := hx1.e1
  have d2 := hx1.e2
  have d3 := hx1.e3
  have d4 := hx1.e4
  have hg := hx1.zg
  have hgc := hx1.zc
  clear hb1 hx1 HX
  go_region_held3 (fun w' => w'.cell? ⟨g, 17, none⟩ = some (.slice (some ⟨gc, off, none⟩) n c) ∧ w'.cell? ⟨g, 18, none⟩ = some (.int .i64 p) ∧ w'.cell? ⟨gc, off + p * 5, none⟩ = some (.int .i64 o) ∧ w'.cell? ⟨gc, off + p * 5 + 1, none⟩ = some (.int .i64 d) ∧ w'.cell? ⟨gc, off + p * 5 + 2, none⟩ = some (.int .i64 a) ∧ w'.cell? ⟨gc, off + p * 5 + 3, none⟩ = some (.int .i64 b) ∧ w'.cell? ⟨gc, off + p * 5 + 4, none⟩ = some (.int .u32 m)) (go_keep) (fail)
  clear f1 f2 d0 d1 d2 d3 d4
  have hb2 : Below W.heap.size W (W.alloc (.cells #[.int .i64 o, .int .i64 d, .int .i64 a, .int .i64 b, .int .u32 m] 35)).drew := ((Below.refl _ _).alloc (Nat.le_refl _) _).drew
  have h5 : Box5 W.heap.size (.int .i64 o) (.int .i64 d) (.int .i64 a) (.int .i64 b) (.int .u32 m) (W.alloc (.cells #[.int .i64 o, .int .i64 d, .int .i64 a, .int .i64 b, .int .u32 m] 35)).drew := Box5.new W (.int .i64 o) (.int .i64 d) (.int .i64 a) (.int .i64 b) (.int .u32 m) 35
  have hz : W.heap.size < (W.alloc (.cells #[.int .i64 o, .int .i64 d, .int .i64 a, .int .i64 b, .int .u32 m] 35)).drew.heap.size := by simp [World.drew]
  have hx2 := HX1.out.below hb2
  have hb3 := HB1.out.trans (hb2.mono HB1.out.size)
  have hwW := HB1.out.size
  generalize (W.alloc (.cells #[.int .i64 o, .int .i64 d, .int .i64 a, .int .i64 b, .int .u32 m] 35)).drew = V at *
  generalize W.heap.size = z at *
  clear HX1 HB1 hb2
  have HX2 := Lib.hid hx2
  have HB3 := Lib.hid hb3
  have H5 := Lib.hid h5
  have h0 := hx2.h0
  have h1 := hx2.h1
  have h2 := hx2.h2
  have hra := hx2.ra
  have hrb := hx2.rb
  obtain ⟨b0, b1, b2, b3, b4⟩ := h5
  clear hx2 hb3
  have hmw : IntKind.u64.wrap m = m := by rw [u64_wrap]; omega
  go_wp2_with fail
  go_quiet (fail)
  clear hmw
  have hx3 := HX2.out.below (Below_drewN (Below.refl V.heap.size V) nq)
  have h5b := H5.out.keep (Below_drewN (Below.refl V.heap.size V) nq) hz
  have hb3 := Below_drewN HB3.out nq
  have hz3 : z < (V.drewN nq).heap.size := hz
  clear h0 h1 h2 hra hrb b0 b1 b2 b3 b4 HX2 HB3 H5 hz
  generalize V.drewN nq = U at *
  have hmU := HM.out.below (hb3.mono (Nat.le_refl _))
  have hTu : Turn g gw w U := Turn.of_below hb3
  obtain ⟨pg, pw⟩ := HP.out
  have h0 := hx3.h0
  have h1 := hx3.h1
  have h2 := hx3.h2
  obtain ⟨b0, b1, b2, b3, b4⟩ := h5b
  have fg : ∀ i, U.frozen? ⟨g, i, none⟩ = false := fun i => by rw [← pg]; exact hmU.fg i
  have fw : ∀ i, U.frozen? ⟨gw, i, none⟩ = false := fun i => by rw [← pw]; exact hmU.fw i
  have hgz : g ≠ z := by omega
  have rd := hmU.reg d hd
  rw [pg] at rd
  have HU := Lib.hid hmU
  have HT := Lib.hid hTu
  have FW := Lib.hid fw
  have HR3 := Lib.hid (And.intro hx3.ra hx3.rb)
  clear pg pw hx3 hmU hTu fw hb3 HM
  have hra := HR3.out.1
  have hrb := HR3.out.2
  clear HR3
  obtain ⟨o0, o1⟩ := HO.out
  have ho : o = 0 ∨ o = 1 ∨ o = 2 ∨ (3 ≤ o ∧ o ≤ 13) ∨ o = 14 ∨ o = 15 ∨ o = 16 ∨ o = 17 ∨ o = 18 ∨ o = 19 := by omega
  clear o0 o1
  have hdi : (d : Int) < 16 := by omega
  have hai : (a : Int) < 16 := by omega
  have hbi : (b : Int) < 16 := by omega
  rcases ho with rfl | rfl | rfl | ho | rfl | rfl | rfl | rfl | rfl | rfl
  · have f18 := fg 18
    clear fg
    go_wp2_with fail
    go_ret
    have hr : stR M = 0 := by rw [HQ.out.stR]; simp
    exact fin_place HU.out HT.out HP.out _ (by omega) (by omega) hr (by rw [HQ.out.stM, hr]; simp)
  · have f18 := fg 18
    have fd := fg d
    clear fg
    go_wp2_with fail
    go_region
    go_wp2_with fail
    go_ret
    have hr : stR M = 0 := by rw [HQ.out.stR]; simp
    exact (fin_reg HU.out HT.out HP.out d hd _ _ (by unfold U64; omega) (by omega) (by omega) hr (by rw [HQ.out.stM, hr]; simp)).drew
  · have f18 := fg 18
    have fd := fg d
    clear fg
    go_wp2_with fail
    go_region
    go_wp2_with fail
    go_ret
    have hr : stR M = 0 := by rw [HQ.out.stR]; simp
    have hua : U64 ra := by rw [← HQ.out.qa]; exact HU.out.ru _ (by rw [HQ.out.qq]; simp; omega)
    exact (fin_reg HU.out HT.out HP.out d hd _ _ hua (by omega) (by omega) hr (by rw [HQ.out.stM, hr]; simp [alV])).drew
  · have f18 := fg 18
    have fd := fg d
    clear fg
    have n0 : (o == 0) = false := by simp; omega
    have n1 : (o == 1) = false := by simp; omega
    have n2 : (o == 2) = false := by simp; omega
    have n14 : (o == 14) = false := by simp; omega
    have n15 : (o == 15) = false := by simp; omega
    have n16 : (o == 16) = false := by simp; omega
    have n17 : (o == 17) = false := by simp; omega
    have n18 : (o == 18) = false := by simp; omega
    have n19 : (o == 19) = false := by simp; omega
    have HOO := Lib.hid ho
    clear ho
    go_wp2_with fail
    clear n0 n1 n2 n14 n15 n16 n17 n18 n19
    have hua : U64 ra := by rw [← HQ.out.qa]; exact HU.out.ru _ (by rw [HQ.out.qq]; simp; omega)
    have hub : U64 rb := by rw [← HQ.out.qb]; exact HU.out.ru _ (by rw [HQ.out.qq]; simp; omega)
    have HUA := Lib.hid hua
    have HUB := Lib.hid hub
    clear hua hub
    have hat : (a : Int).toNat = a := by omega
    have hbt : (b : Int).toNat = b := by omega
    have hdt : (d : Int).toNat = d := by omega
    go_still_tail 23, (by kernel_rfl)
    still_call ((alu_any o ra rb (by have := HOO.out; omega) HUA.out HUB.out _).mono fun _ _ h => ⟨h.1, h.2.symm⟩)
    repeat still_step
    refine wpStill_nil ?_
    change wpList _ _ _ _ _ U.drew
    go_wp2_with fail
    go_ret
    have hr : stR M = 0 := by rw [HQ.out.stR]; have := HOO.out; rw [if_neg (by omega), if_neg (by omega)]
    have hm : stM M = { M with R := M.R.set d (alV o ra rb), p := p + 1 } := by
      have := HOO.out
      rw [HQ.out.stM, hr, if_neg (by omega), if_neg (by omega), if_neg (by omega), if_neg (by omega), if_neg (by omega), if_neg (by omega), if_neg (by omega), if_neg (by omega)]
    exact (fin_reg HU.out HT.out HP.out d hd _ _ (alV_U64 o ra rb HUA.out) (by omega) (by omega) hr hm).drew
  · have f18 := fg 18
    have fd := fg d
    clear fg
    have hr := HQ.out.stR
    have hm := HQ.out.stM
    have hwu := u64_nn (ra + m)
    generalize hx : IntKind.u64.wrap (ra + m) = x at *
    obtain ⟨k, rfl⟩ := Int.eq_ofNat_of_zero_le hwu
    have hW := HU.out.good.w1
    rw [HQ.out.qW] at hW
    have hne : g ≠ gw := by have := HU.out.ne; rw [HP.out.1, HP.out.2] at this; exact this
    have hne2 : gw ≠ g := Ne.symm hne
    by_cases hk : k < nW
    · have hwd := HU.out.word k (by rw [HQ.out.qW]; exact hk)
      obtain ⟨u0, u1⟩ := HU.out.wu k (by rw [HQ.out.qW]; exact hk)
      rw [HP.out.2] at hwd
      have hr0 : stR M = 0 := by rw [hr, if_neg (by omega), if_neg (by omega)]
      rw [hr0] at hm
      simp only [ne_eq, not_true_eq_false, if_false, if_true, Int.reduceEq, Int.toNat_natCast] at hm
      generalize M.W.getD k 0 = y at *
      have HR := Lib.hid hr0
      have HM2 := Lib.hid hm
      have hki : (k : Int) < (nW : Int) := by omega
      clear hr hm hr0
      go_wp2_with fail
      go_region
      go_wp2_with fail
      go_ret
      exact (fin_reg HU.out HT.out HP.out d hd _ _ (by unfold U64; omega) (by omega) (by omega) HR.out HM2.out).drew
    · have hr0 : stR M = 4 := by rw [hr, if_neg (by omega), if_pos ⟨by omega, by omega⟩]
      have HR := Lib.hid hr0
      clear hr hm hr0
      go_wp2_with fail
      go_ret
      exact fin_stay HU.out HT.out HP.out 4 HR.out (by omega)
  · have f18 := fg 18
    clear fg
    have hr := HQ.out.stR
    have hm := HQ.out.stM
    have hwu := u64_nn (ra + m)
    generalize hx : IntKind.u64.wrap (ra + m) = x at *
    obtain ⟨k, rfl⟩ := Int.eq_ofNat_of_zero_le hwu
    have hW := HU.out.good.w1
    rw [HQ.out.qW] at hW
    have hne : g ≠ gw := by have := HU.out.ne; rw [HP.out.1, HP.out.2] at this; exact this
    have hne2 : gw ≠ g := Ne.symm hne
    by_cases hk : k < nW
    · have hwd := HU.out.word k (by rw [HQ.out.qW]; exact hk)
      have fk := FW.out k
      rw [HP.out.2] at hwd
      have hr0 : stR M = 0 := by rw [hr, if_neg (by omega), if_neg (by omega)]
      rw [hr0] at hm
      simp only [ne_eq, not_true_eq_false, if_false, if_true, Int.reduceEq, Int.toNat_natCast] at hm
      generalize M.W.getD k 0 = y at *
      have HR := Lib.hid hr0
      have HM2 := Lib.hid hm
      have hki : (k : Int) < (nW : Int) := by omega
      clear hr hm hr0
      go_wp2_with fail
      go_region
      go_wp2_with fail
      go_ret
      exact (fin_word HU.out HT.out HP.out k _ _ (by omega) (by omega) (by omega) HR.out HM2.out).drew
    · have hr0 : stR M = 4 := by rw [hr, if_neg (by omega), if_pos ⟨by omega, by omega⟩]
      have HR := Lib.hid hr0
      clear hr hm hr0
      go_wp2_with fail
      go_ret
      exact fin_stay HU.out HT.out HP.out 4 HR.out (by omega)
  · have f18 := fg 18
    clear fg
    go_wp2_with fail
    go_quiet (fail)
    have hU2 := HU.out.below (Below_drewN (Below.refl U.heap.size U) nq)
    have hT2 := HT.out.trans (Turn.of_below (Below_drewN (Below.refl U.heap.size U) nq))
    have HU2 := Lib.hid hU2
    have HT2 := Lib.hid hT2
    clear hU2 hT2
    cases hz : (ra == 0)
    · have hz2 : (ra != 0) = true := by rw [bne, hz]; rfl
      go_wp2_with fail
      go_ret
      have hr : stR M = 0 := by rw [HQ.out.stR]; simp
      simp only [beq_iff_eq, beq_eq_false_iff_ne, ne_eq] at hz
      exact fin_place HU2.out HT2.out HP.out _ (by omega) (by omega) hr (by rw [HQ.out.stM, hr]; simp [hz])
    · have hz2 : (ra != 0) = false := by rw [bne, hz]; rfl
      go_wp2_with fail
      go_ret
      have hr : stR M = 0 := by rw [HQ.out.stR]; simp
      simp only [beq_iff_eq, beq_eq_false_iff_ne, ne_eq] at hz
      exact fin_place HU2.out HT2.out HP.out _ (by omega) (by omega) hr (by rw [HQ.out.stM, hr]; simp [hz])
  · have f18 := fg 18
    clear fg
    go_wp2_with fail
    go_quiet (fail)
    have hU2 := HU.out.below (Below_drewN (Below.refl U.heap.size U) nq)
    have hT2 := HT.out.trans (Turn.of_below (Below_drewN (Below.refl U.heap.size U) nq))
    have HU2 := Lib.hid hU2
    have HT2 := Lib.hid hT2
    clear hU2 hT2
    cases hz : (ra == 0)
    · have hz2 : (ra != 0) = true := by rw [bne, hz]; rfl
      go_wp2_with fail
      go_ret
      have hr : stR M = 0 := by rw [HQ.out.stR]; simp
      simp only [beq_iff_eq, beq_eq_false_iff_ne, ne_eq] at hz
      exact fin_place HU2.out HT2.out HP.out _ (by omega) (by omega) hr (by rw [HQ.out.stM, hr]; simp [hz])
    · have hz2 : (ra != 0) = false := by rw [bne, hz]; rfl
      go_wp2_with fail
      go_ret
      have hr : stR M = 0 := by rw [HQ.out.stR]; simp
      simp only [beq_iff_eq, beq_eq_false_iff_ne, ne_eq] at hz
      exact fin_place HU2.out HT2.out HP.out _ (by omega) (by omega) hr (by rw [HQ.out.stM, hr]; simp [hz])
  · have f18 := fg 18
    clear fg
    go_wp2_with fail
    go_ret
    have hr : stR M = 0 := by rw [HQ.out.stR]; simp
    exact fin_place HU.out HT.out HP.out _ (by omega) (by omega) hr (by rw [HQ.out.stM, hr]; simp)
  · clear fg
    go_wp2_with fail
    go_ret
    exact fin_stay HU.out HT.out HP.out 1 (by rw [HQ.out.stR]; simp) (by omega)

theorem rstep_any (T : TypeId) (B : Nat) (P : Mp) (M : Mc) (w : World) (hM : IsM .i64 T B w P M) :
    Calls Try.prog 16 #[.pointer (some ⟨P.g, 0, none⟩)] w (Stepped .i64 T B P M w) := by
  by_cases hp : M.p < M.C.length
  · obtain ⟨gc, off, p, d, a, b, o, m, hA, hx, hq, hd, ha, hb, ho, hm, hra, hrb⟩ := cx_of hM hp
    exact rstep_x P.g P.gw gc off M.C.length P.cc M.W.length p hM.good.cl hq.pn o d a b m M.ra M.rb ha hb hd ho hm.1 hm.2 hra.1 hrb.1 w hx T B P M hM ⟨rfl, rfl⟩ hq
  · obtain ⟨p, hpp⟩ := Int.eq_ofNat_of_zero_le hM.good.p0
    have h2 := hM.cp
    rw [hpp] at h2
    have p1 := hM.good.p1
    refine (rstep_bad P.g P.A M.C.length P.cc hM.good.cl p (by omega) (by omega) w hM.cc h2).mono ?_
    rintro e w' ⟨rfl, hb⟩
    exact fin_stay (hM.below hb) (Turn.of_below hb) ⟨rfl, rfl⟩ 2 (by unfold stR; rw [if_pos (by omega)]) (by omega)
end Go.Proofs.Ytaghblcboimbpaa

/-
  innkeeperlaw8.WalkBits returns true: its walk.
-/
import Derived.Test.YtoejpdhcibbgdaaWz
import Derived.Test.YtoejpdhcibbgdaaWi1
import Derived.Outline
namespace Go.Proofs.Ytoejpdhcibbgdaa
open Go.RowKit
set_option linter.unusedSimpArgs false
set_option linter.unusedVariables false

section
variable {p : Bl} {X : Rm}
theorem doY_any (r v : Nat) (hr : r < 4294967296) (hv : v < 4294967296) (k : Int) (s : Bool) (w : World) (hM : IsM w p X) (h : X.doB r v k s = true) :
    Calls Try.prog 14 #[.pointer (some ⟨p.m, 0, none⟩), .int .u32 r, .int .u32 v, .int .i64 k, .bool s] w (Left p (X.doS r v k s) (.tuple #[.agg #[.bool true, .int .u32 (v / 64 : Nat), .int .u32 (X.us r v k / 256 : Nat), .int .u32 (X.us r v k &&& 94 : Nat)], .agg #[.int .i64 0, .int .u32 0]]) w) := by
  have hd := do_any r v hr hv k s w hM
  rw [(do_yes h).2.1, (do_yes h).2.2] at hd
  exact hd
theorem doN_any (r v : Nat) (hr : r < 4294967296) (hv : v < 4294967296) (k : Int) (s : Bool) (w : World) (hM : IsM w p X) (hk : isK k = true) (h : X.doB r v k s = false) :
    Calls Try.prog 14 #[.pointer (some ⟨p.m, 0, none⟩), .int .u32 r, .int .u32 v, .int .i64 k, .bool s] w (Left p X (.tuple #[.agg #[.bool false, .int .u32 0, .int .u32 0, .int .u32 0], .agg #[.int .i64 (ftV k), .int .u32 v]]) w) := by
  have hd := do_any r v hr hv k s w hM
  rw [(do_no h).1, (do_no h).2.1, (do_no h).2.2, hk, if_pos rfl] at hd
  exact hd
/-- All, and what it is as a string -/
theorem allS_any (w : World) (hM : IsM w p X) (hn : X.n = 8) :
    Calls Try.prog 17 #[.pointer (some ⟨p.m, 0, none⟩)] w fun e w' => ∃ g, e = .returned (.slice (some ⟨g, 0, none⟩) 512 512) ∧ (convert 29 9 (.slice (some ⟨g, 0, none⟩) 512 512)).run Try.prog w' = .ok (.string (strL (rowL X.b 512))) w' ∧ Below w.heap.size w w' := by
  have ha := allM_any w hM
  rw [hn] at ha
  refine ha.mono ?_
  rintro e w' ⟨g, rfl, hg, hB, hb⟩
  exact ⟨g, rfl, conv_B hB (fun j hj => hM.bd j (by rw [hn]; exact hj)) 512, hb⟩
end
section
variable {w : World} {g h : Nat} {a b c d e f : Value}
theorem Res.cells (r : Res w g h #[a, b, c, d] #[e, f]) : w.cell? ⟨g, 0, none⟩ = some a ∧ w.cell? ⟨g, 1, none⟩ = some b ∧ w.cell? ⟨g, 2, none⟩ = some c ∧ w.cell? ⟨g, 3, none⟩ = some d ∧ w.cell? ⟨h, 0, none⟩ = some e ∧ w.cell? ⟨h, 1, none⟩ = some f :=
  ⟨r.e.cell 0, r.e.cell 1, r.e.cell 2, r.e.cell 3, r.t.cell 0, r.t.cell 1⟩
theorem Res.after {w' : World} {E T : Array Value} (r : Res w g h E T) (hb : Below w.heap.size w w') : Res w' g h E T := ⟨(hb.block g r.e.lt).trans r.e, (hb.block h r.t.lt).trans r.t, r.z⟩
theorem two_new (w : World) (A B : Obj) : Below w.heap.size w ((w.alloc A).alloc B) := ((Below.refl _ _).alloc (Nat.le_refl _) A).alloc (by simp) B
end
set_option maxRecDepth 100000 in
set_option maxHeartbeats 8000000 in
theorem walkBits_walk (A0 : Option Addr) (len0 cap0 : Nat) (L0 : List Ap) (a1 : Int) (a2 : Int) (w : World) (w0 : RowP w A0 len0 cap0 L0) (w1 : (Lit.int .u32 a1).wf = true) (w2 : (Lit.int .i64 a2).wf = true) :
    Calls Try.prog 5 #[.slice A0 len0 cap0, .int .u32 a1, .int .i64 a2] w fun e w' => e = .returned (.bool true) ∧ Below w.heap.size w w' := by
  obtain ⟨L, hl, hL, htb⟩ := tables_row w0
  obtain ⟨y0, y1⟩ := u32_of_wf w1
  obtain ⟨y2, y3⟩ := i64_of_wf w2
  obtain ⟨v0, rfl⟩ := Int.eq_ofNat_of_zero_le y0
  have t1 : ((v0 : Int)).tmod 4096 = ((v0 % 4096 : Nat) : Int) := by rw [Int.tmod_eq_emod_of_nonneg (by omega)]; omega
  have v9 : v0 % 4096 < 4096 := by omega
  generalize v0 % 4096 = v at *
  have q1 : ((v : Int)).tdiv 64 = ((v / 64 : Nat) : Int) := by rw [Int.tdiv_eq_ediv_of_nonneg (by omega)]; omega
  have q2 : (0 : Int) ≤ ((v / 64 : Nat) : Int) := by omega
  have q3 : ((v / 64 : Nat) : Int) < 64 := by omega
  have hwi := within_one a2 3 y2 y3 (by omega) (by omega)
  have hkb := wdV_bd a2 1 3 (by omega)
  generalize wdV a2 1 3 = K at *
  have hk : isK K = true := by unfold isK; exact decide_eq_true hkb
  have hF0 : ¬ ftV K = 0 := by rw [ft_yes hk]; omega
  have hF1 : (ftV K == 0) = false := by simpa using hF0
  have HTB := Lib.hid htb
  have HL := Lib.hid (And.intro hl hL)
  have HWI := Lib.hid hwi
  clear hl hL htb w0 w1 w2 y0 y1 y2 y3 hwi
  go_enter Try.func5, Try.ntmps5
  go_wp2_with (first
    | (go_at_call 12; refine HTB.out.mono ?_; rintro e wa ⟨g, rfl, hR, hba⟩; have HA := Lib.hid hba; have HR := Lib.hid hR; clear hR hba HTB)
    | (go_at_call 11; refine (both_row HL.out.1 HL.out.2 g wa HR.out).mono ?_; rintro e wb ⟨p, q, b, t, X, rfl, hn, hP⟩; have HM := Lib.hid hP.d; have HN := Lib.hid hn; clear hP hn HR HL)
    | (go_at_call 16; refine (HWI.out _).mono ?_; rintro e w' ⟨rfl, rfl⟩))
  have hz := HA.out.size
  have hOk := HM.out.m.ok
  cases hD1 : X.doB 0 v K true
  · have hD0 := do_super hD1
    have HD1 := Lib.hid (fun W (h : IsM W p X) => doN_any 0 v (by omega) (by omega) K false W h hk hD0)
    have HD2 := Lib.hid (fun W (h : IsM W p X) => doN_any 0 v (by omega) (by omega) K true W h hk hD1)
    have HX := Lib.hid (fun W (h : IsM W p X) => allS_any W h HN.out)
    unfold Left at HD1 HD2
    clear hD0 hD1 hk hkb v9 hOk
    generalize ftV K = F at *
    generalize ((v / 64 : Nat) : Int) = VQ at *
    generalize (v : Int) = V at *
    generalize strL (rowL X.b 512) = S0 at *
    go_wp2_with (first
      | (go_at_call 17
         refine (HX.out wb HM.out.m).mono ?_
         rintro e w1 ⟨ga, rfl, f1, hb1⟩
         have HM1 := Lib.hid (HM.out.keep HM.out.b.size hb1)
         clear hb1 HM)
      | (go_at_call 14
         refine (HD1.out w1 HM1.out.m).mono ?_
         rintro e w2 ⟨rfl, h1, h2⟩
         have HM2 := Lib.hid (HM1.out.left HM1.out.b.size h1 h2)
         have HZ := Lib.hid HM1.out.m.z
         have hs2 := h2.size
         clear h1 h2 f1 HM1 HD1)
      | (go_at_call 17
         have hb2 := two_new w2 (.cells #[.bool false, .int .u32 0, .int .u32 0, .int .u32 0] 37) (.cells #[.int .i64 F, .int .u32 V] 39)
         refine (HX.out _ (HM2.out.keep HM2.out.b.size hb2).m).mono ?_
         rintro e w3 ⟨ga2, rfl, f2, hb3⟩
         have HM3 := Lib.hid ((HM2.out.keep HM2.out.b.size hb2).keep (Nat.le_trans HM2.out.b.size hb2.size) hb3)
         have HR2 := Lib.hid ((res_new2 w2 (.bool false) (.int .u32 0) (.int .u32 0) (.int .u32 0) (.int .i64 F) (.int .u32 V)).after hb3)
         have k2 := HR2.out.cells
         have hs3 := hb3.size
         clear hb2 hb3 HM2)
      | (go_at_call 14
         refine (HD2.out _ HM3.out.m).mono ?_
         rintro e w4 ⟨rfl, h1, h2⟩
         have HM4 := Lib.hid (HM3.out.left HM3.out.b.size h1 h2)
         have z := HZ.out
         have HR4 := Lib.hid (HR2.out.alt h2 ⟨by omega, by omega, by omega⟩ ⟨by omega, by omega, by omega⟩)
         have k4 := fun A B => (HR4.out.after (two_new w4 A B)).cells
         have HZ4 := Lib.hid HM4.out.m.z
         clear h1 h2 z HM3 HD2 HR2 k2 f2)
      | (go_at_call 17
         have hb4 := two_new w4 (.cells #[.bool false, .int .u32 0, .int .u32 0, .int .u32 0] 37) (.cells #[.int .i64 F, .int .u32 V] 39)
         refine (HX.out _ (HM4.out.keep HM4.out.b.size hb4).m).mono ?_
         rintro e w5 ⟨ga3, rfl, f3, hb5⟩
         have HM5 := Lib.hid ((HM4.out.keep HM4.out.b.size hb4).keep (Nat.le_trans HM4.out.b.size hb4.size) hb5)
         have HR5 := Lib.hid ((res_new2 w4 (.bool false) (.int .u32 0) (.int .u32 0) (.int .u32 0) (.int .i64 F) (.int .u32 V)).after hb5)
         clear hb4 hb5 k4 HM4 HR4)
      | (go_at_call 15
         refine (known8_any _).mono ?_
         rintro e wk ⟨rfl, hk⟩
         have HK := Lib.hid hk
         clear hk))
    go_ret
    exact ⟨rfl, HA.out.trans ((HM5.out.b.trans (HK.out.mono HM5.out.b.size)).mono hz)⟩
  · cases hD : X.doB 0 v K false
    · have hD0 := hD
      clear hD
      have hD := hD1
      clear hD1
      have hX1 : (X.doS 0 v K true).Ok := doS_ok hOk 0 v K true
      obtain ⟨d1, d2, d3⟩ := do_again hOk hD true (.inr rfl)
      obtain ⟨l1, l2⟩ := do_lk hOk hD
      have hn2 := doS_n X 0 v K true
      have hU9 : X.us 0 v K < 4294967296 := or_lt _ _ (lkE_lt hOk 0 v) (mk_lt K)
      have hU32 : X.us 0 v K &&& 32 = 32 := us_32
      have hU64 : K = 3 → X.us 0 v K &&& 64 = 64 := fun h => by rw [h]; exact us_64
      have hd1 := fun W (h : IsM W p X) => doN_any 0 v (by omega) (by omega) K false W h hk hD0
      have hd2 := fun W (h : IsM W p X) => doY_any 0 v (by omega) (by omega) K true W h hD
      have hd3 := fun W (h : IsM W p (X.doS 0 v K true)) => doY_any 0 v (by omega) (by omega) K true W h d1
      have hlk := fun W (h : IsM W p (X.doS 0 v K true)) => look_any 0 v (by omega) (by omega) W h
      simp only [d2, d3] at hd3
      simp only [l1, l2] at hlk
      have hx2 := fun W (h : IsM W p (X.doS 0 v K true)) => allS_any W h (by rw [hn2]; exact HN.out)
      generalize X.doS 0 v K true = X2 at *
      have HX := Lib.hid (fun W (h : IsM W p X) => allS_any W h HN.out)
      have g1 : bits .and .u32 ((X.us 0 v K : Nat) : Int) 32 = 32 := by
        have := u32_and_nat (X.us 0 v K) 32 hU9 (by omega)
        rw [hU32] at this; exact this
      have g2 : K = 3 → bits .and .u32 ((X.us 0 v K : Nat) : Int) 64 = 64 := fun h => by
        have := u32_and_nat (X.us 0 v K) 64 hU9 (by omega)
        rw [hU64 h] at this; exact this
      have g3 : ((X.us 0 v K : Nat) : Int) / 256 = ((X.us 0 v K / 256 : Nat) : Int) := by omega
      have HX2 := Lib.hid hx2
      have HD1 := Lib.hid hd1
      have HD2 := Lib.hid hd2
      have HD3 := Lib.hid hd3
      have HLK := Lib.hid hlk
      unfold Left at HD1 HD2 HD3
      unfold Told at HLK
      clear hd1 hd2 hd3 hlk hx2 hX1 d1 d2 d3 l1 l2 hn2 hU9 hU32 hU64 hk hkb v9 hOk hD hD0
      generalize ((X.us 0 v K / 256 : Nat) : Int) = PF at *
      generalize ((X.us 0 v K &&& 94 : Nat) : Int) = BT at *
      generalize ((X.us 0 v K : Nat) : Int) = US at *
      generalize ((X2.lkA 0 v : Nat) : Int) = LA at *
      generalize strL (rowL X.b 512) = S0 at *
      generalize strL (rowL X2.b 512) = S2 at *
      generalize ftV K = F at *
      generalize ((v / 64 : Nat) : Int) = VQ at *
      generalize (v : Int) = V at *
      rcases (show K = 3 ∨ ¬ K = 3 by omega) with h3 | h3
      · have g4 := g2 h3
        have h3b : (K == 3) = true := by simpa using h3
        clear g2
        subst h3
        go_wp2_with (first
          | (go_at_call 17
             refine (HX.out wb HM.out.m).mono ?_
             rintro e w1 ⟨ga, rfl, f1, hb1⟩
             have HM1 := Lib.hid (HM.out.keep HM.out.b.size hb1)
             clear hb1 HM)
          | (go_at_call 14
             refine (HD1.out w1 HM1.out.m).mono ?_
             rintro e w2 ⟨rfl, h1, h2⟩
             have HM2 := Lib.hid (HM1.out.left HM1.out.b.size h1 h2)
             have HZ := Lib.hid HM1.out.m.z
             have hs2 := h2.size
             clear h1 h2 f1 HM1 HD1)
          | (go_at_call 17
             have hb2 := two_new w2 (.cells #[.bool false, .int .u32 0, .int .u32 0, .int .u32 0] 37) (.cells #[.int .i64 F, .int .u32 V] 39)
             refine (HX.out _ (HM2.out.keep HM2.out.b.size hb2).m).mono ?_
             rintro e w3 ⟨ga2, rfl, f2, hb3⟩
             have HM3 := Lib.hid ((HM2.out.keep HM2.out.b.size hb2).keep (Nat.le_trans HM2.out.b.size hb2.size) hb3)
             have HR2 := Lib.hid ((res_new2 w2 (.bool false) (.int .u32 0) (.int .u32 0) (.int .u32 0) (.int .i64 F) (.int .u32 V)).after hb3)
             have k2 := HR2.out.cells
             have hs3 := hb3.size
             clear hb2 hb3 HM2)
          | (go_at_call 14
             refine (HD2.out _ HM3.out.m).mono ?_
             rintro e w4 ⟨rfl, h1, h2⟩
             have HM4 := Lib.hid (HM3.out.left HM3.out.b.size h1 h2)
             have z := HZ.out
             have HR4 := Lib.hid (HR2.out.alt h2 ⟨by omega, by omega, by omega⟩ ⟨by omega, by omega, by omega⟩)
             have k4 := fun A B => (HR4.out.after (two_new w4 A B)).cells
             have HZ4 := Lib.hid HM4.out.m.z
             clear h1 h2 z HM3 HD2 HR2 k2 f2)
          | (go_at_call 17
             have hb4 := two_new w4 (.cells #[.bool true, .int .u32 VQ, .int .u32 PF, .int .u32 BT] 37) (.cells #[.int .i64 0, .int .u32 0] 39)
             refine (HX2.out _ (HM4.out.keep HM4.out.b.size hb4).m).mono ?_
             rintro e w5 ⟨ga3, rfl, f3, hb5⟩
             have HM5 := Lib.hid ((HM4.out.keep HM4.out.b.size hb4).keep (Nat.le_trans HM4.out.b.size hb4.size) hb5)
             have HR5 := Lib.hid ((res_new2 w4 (.bool true) (.int .u32 VQ) (.int .u32 PF) (.int .u32 BT) (.int .i64 0) (.int .u32 0)).after hb5)
             clear hb4 hb5 k4 HM4 HR4)
          | (go_at_call 14
             refine (HD3.out _ HM5.out.m).mono ?_
             rintro e w6 ⟨rfl, h1, h2⟩
             have HM6 := Lib.hid (HM5.out.left HM5.out.b.size h1 h2)
             have z := HZ4.out
             have HR6 := Lib.hid (HR5.out.alt h2 ⟨by omega, by omega, by omega⟩ ⟨by omega, by omega, by omega⟩)
             have k6 := fun A B => (HR6.out.after (two_new w6 A B)).cells
             clear h1 h2 z f3 HM5 HD3 HR5)
          | (go_at_call 18
             have hb6 := two_new w6 (.cells #[.bool true, .int .u32 VQ, .int .u32 PF, .int .u32 BT] 37) (.cells #[.int .i64 0, .int .u32 0] 39)
             refine (HLK.out _ (HM6.out.keep HM6.out.b.size hb6).m).mono ?_
             rintro e wl ⟨rfl, m7, rfl⟩
             have HM7 := Lib.hid ((HM6.out.keep HM6.out.b.size hb6).keep (Nat.le_trans HM6.out.b.size hb6.size) (Below_drewN (Below.refl _ _) m7))
             have HR7 := Lib.hid ((HR6.out.after hb6).drewN m7)
             clear hb6 HM6 HR6)
          | (go_at_call 17
             refine (HX2.out _ HM7.out.m).mono ?_
             rintro e w8 ⟨ga4, rfl, f4, hb8⟩
             have HM8 := Lib.hid (HM7.out.keep HM7.out.b.size hb8)
             have k8 := (HR7.out.after hb8).cells
             clear hb8 k6 HM7 HR7)
          | (go_at_call 15
             refine (known8_any _).mono ?_
             rintro e wk ⟨rfl, hk⟩
             have HK := Lib.hid hk
             clear hk))
        go_ret
        exact ⟨rfl, HA.out.trans ((HM8.out.b.trans (HK.out.mono HM8.out.b.size)).mono hz)⟩
      · have h3b : (K == 3) = false := by simpa using h3
        clear g2
        go_wp2_with (first
          | (go_at_call 17
             refine (HX.out wb HM.out.m).mono ?_
             rintro e w1 ⟨ga, rfl, f1, hb1⟩
             have HM1 := Lib.hid (HM.out.keep HM.out.b.size hb1)
             clear hb1 HM)
          | (go_at_call 14
             refine (HD1.out w1 HM1.out.m).mono ?_
             rintro e w2 ⟨rfl, h1, h2⟩
             have HM2 := Lib.hid (HM1.out.left HM1.out.b.size h1 h2)
             have HZ := Lib.hid HM1.out.m.z
             have hs2 := h2.size
             clear h1 h2 f1 HM1 HD1)
          | (go_at_call 17
             have hb2 := two_new w2 (.cells #[.bool false, .int .u32 0, .int .u32 0, .int .u32 0] 37) (.cells #[.int .i64 F, .int .u32 V] 39)
             refine (HX.out _ (HM2.out.keep HM2.out.b.size hb2).m).mono ?_
             rintro e w3 ⟨ga2, rfl, f2, hb3⟩
             have HM3 := Lib.hid ((HM2.out.keep HM2.out.b.size hb2).keep (Nat.le_trans HM2.out.b.size hb2.size) hb3)
             have HR2 := Lib.hid ((res_new2 w2 (.bool false) (.int .u32 0) (.int .u32 0) (.int .u32 0) (.int .i64 F) (.int .u32 V)).after hb3)
             have k2 := HR2.out.cells
             have hs3 := hb3.size
             clear hb2 hb3 HM2)
          | (go_at_call 14
             refine (HD2.out _ HM3.out.m).mono ?_
             rintro e w4 ⟨rfl, h1, h2⟩
             have HM4 := Lib.hid (HM3.out.left HM3.out.b.size h1 h2)
             have z := HZ.out
             have HR4 := Lib.hid (HR2.out.alt h2 ⟨by omega, by omega, by omega⟩ ⟨by omega, by omega, by omega⟩)
             have k4 := fun A B => (HR4.out.after (two_new w4 A B)).cells
             have HZ4 := Lib.hid HM4.out.m.z
             clear h1 h2 z HM3 HD2 HR2 k2 f2)
          | (go_at_call 17
             have hb4 := two_new w4 (.cells #[.bool true, .int .u32 VQ, .int .u32 PF, .int .u32 BT] 37) (.cells #[.int .i64 0, .int .u32 0] 39)
             refine (HX2.out _ (HM4.out.keep HM4.out.b.size hb4).m).mono ?_
             rintro e w5 ⟨ga3, rfl, f3, hb5⟩
             have HM5 := Lib.hid ((HM4.out.keep HM4.out.b.size hb4).keep (Nat.le_trans HM4.out.b.size hb4.size) hb5)
             have HR5 := Lib.hid ((res_new2 w4 (.bool true) (.int .u32 VQ) (.int .u32 PF) (.int .u32 BT) (.int .i64 0) (.int .u32 0)).after hb5)
             clear hb4 hb5 k4 HM4 HR4)
          | (go_at_call 14
             refine (HD3.out _ HM5.out.m).mono ?_
             rintro e w6 ⟨rfl, h1, h2⟩
             have HM6 := Lib.hid (HM5.out.left HM5.out.b.size h1 h2)
             have z := HZ4.out
             have HR6 := Lib.hid (HR5.out.alt h2 ⟨by omega, by omega, by omega⟩ ⟨by omega, by omega, by omega⟩)
             have k6 := fun A B => (HR6.out.after (two_new w6 A B)).cells
             clear h1 h2 z f3 HM5 HD3 HR5)
          | (go_at_call 18
             have hb6 := two_new w6 (.cells #[.bool true, .int .u32 VQ, .int .u32 PF, .int .u32 BT] 37) (.cells #[.int .i64 0, .int .u32 0] 39)
             refine (HLK.out _ (HM6.out.keep HM6.out.b.size hb6).m).mono ?_
             rintro e wl ⟨rfl, m7, rfl⟩
             have HM7 := Lib.hid ((HM6.out.keep HM6.out.b.size hb6).keep (Nat.le_trans HM6.out.b.size hb6.size) (Below_drewN (Below.refl _ _) m7))
             have HR7 := Lib.hid ((HR6.out.after hb6).drewN m7)
             clear hb6 HM6 HR6)
          | (go_at_call 17
             refine (HX2.out _ HM7.out.m).mono ?_
             rintro e w8 ⟨ga4, rfl, f4, hb8⟩
             have HM8 := Lib.hid (HM7.out.keep HM7.out.b.size hb8)
             have k8 := (HR7.out.after hb8).cells
             clear hb8 k6 HM7 HR7)
          | (go_at_call 15
             refine (known8_any _).mono ?_
             rintro e wk ⟨rfl, hk⟩
             have HK := Lib.hid hk
             clear hk))
        go_ret
        exact ⟨rfl, HA.out.trans ((HM8.out.b.trans (HK.out.mono HM8.out.b.size)).mono hz)⟩
    · clear hD1
      have hX1 : (X.doS 0 v K false).Ok := doS_ok hOk 0 v K false
      obtain ⟨d1, d2, d3⟩ := do_again hOk hD true (.inr rfl)
      obtain ⟨l1, l2⟩ := do_lk hOk hD
      have hn2 := doS_n X 0 v K false
      have hU9 : X.us 0 v K < 4294967296 := or_lt _ _ (lkE_lt hOk 0 v) (mk_lt K)
      have hU32 : X.us 0 v K &&& 32 = 32 := us_32
      have hU64 : K = 3 → X.us 0 v K &&& 64 = 64 := fun h => by rw [h]; exact us_64
      have hd1 := fun W (h : IsM W p X) => doY_any 0 v (by omega) (by omega) K false W h hD
      have hd2 := fun W (h : IsM W p (X.doS 0 v K false)) => doY_any 0 v (by omega) (by omega) K true W h d1
      have hlk := fun W (h : IsM W p (X.doS 0 v K false)) => look_any 0 v (by omega) (by omega) W h
      simp only [d2, d3] at hd2
      have hd3 := hd2
      simp only [l1, l2] at hlk
      have hx2 := fun W (h : IsM W p (X.doS 0 v K false)) => allS_any W h (by rw [hn2]; exact HN.out)
      generalize X.doS 0 v K false = X2 at *
      have HX := Lib.hid (fun W (h : IsM W p X) => allS_any W h HN.out)
      have g1 : bits .and .u32 ((X.us 0 v K : Nat) : Int) 32 = 32 := by
        have := u32_and_nat (X.us 0 v K) 32 hU9 (by omega)
        rw [hU32] at this; exact this
      have g2 : K = 3 → bits .and .u32 ((X.us 0 v K : Nat) : Int) 64 = 64 := fun h => by
        have := u32_and_nat (X.us 0 v K) 64 hU9 (by omega)
        rw [hU64 h] at this; exact this
      have g3 : ((X.us 0 v K : Nat) : Int) / 256 = ((X.us 0 v K / 256 : Nat) : Int) := by omega
      have HX2 := Lib.hid hx2
      have HD1 := Lib.hid hd1
      have HD2 := Lib.hid hd2
      have HD3 := Lib.hid hd3
      have HLK := Lib.hid hlk
      unfold Left at HD1 HD2 HD3
      unfold Told at HLK
      clear hd1 hd2 hd3 hlk hx2 hX1 d1 d2 d3 l1 l2 hn2 hU9 hU32 hU64 hk hkb v9 hOk hD
      generalize ((X.us 0 v K / 256 : Nat) : Int) = PF at *
      generalize ((X.us 0 v K &&& 94 : Nat) : Int) = BT at *
      generalize ((X.us 0 v K : Nat) : Int) = US at *
      generalize ((X2.lkA 0 v : Nat) : Int) = LA at *
      generalize strL (rowL X.b 512) = S0 at *
      generalize strL (rowL X2.b 512) = S2 at *
      generalize ftV K = F at *
      generalize ((v / 64 : Nat) : Int) = VQ at *
      generalize (v : Int) = V at *
      rcases (show K = 3 ∨ ¬ K = 3 by omega) with h3 | h3
      · have g4 := g2 h3
        have h3b : (K == 3) = true := by simpa using h3
        clear g2
        subst h3
        go_wp2_with (first
          | (go_at_call 17
             refine (HX.out wb HM.out.m).mono ?_
             rintro e w1 ⟨ga, rfl, f1, hb1⟩
             have HM1 := Lib.hid (HM.out.keep HM.out.b.size hb1)
             clear hb1 HM)
          | (go_at_call 14
             refine (HD1.out w1 HM1.out.m).mono ?_
             rintro e w2 ⟨rfl, h1, h2⟩
             have HM2 := Lib.hid (HM1.out.left HM1.out.b.size h1 h2)
             have HZ := Lib.hid HM1.out.m.z
             have hs2 := h2.size
             clear h1 h2 f1 HM1 HD1)
          | (go_at_call 14
             have HR2 := Lib.hid (res_new2 w2 (.bool true) (.int .u32 VQ) (.int .u32 PF) (.int .u32 BT) (.int .i64 0) (.int .u32 0))
             have HM3 := Lib.hid (HM2.out.keep HM2.out.b.size (two_new w2 (.cells #[.bool true, .int .u32 VQ, .int .u32 PF, .int .u32 BT] 37) (.cells #[.int .i64 0, .int .u32 0] 39)))
             refine (HD2.out _ HM3.out.m).mono ?_
             rintro e w4 ⟨rfl, h1, h2⟩
             have HM4 := Lib.hid (HM3.out.left HM3.out.b.size h1 h2)
             have z := HZ.out
             have HR4 := Lib.hid (HR2.out.alt h2 ⟨by omega, by omega, by omega⟩ ⟨by omega, by omega, by omega⟩)
             have k4 := fun A B => (HR4.out.after (two_new w4 A B)).cells
             have HZ4 := Lib.hid HM4.out.m.z
             clear h1 h2 z HM3 HD2 HR2 HM2)
          | (go_at_call 17
             have hb4 := two_new w4 (.cells #[.bool true, .int .u32 VQ, .int .u32 PF, .int .u32 BT] 37) (.cells #[.int .i64 0, .int .u32 0] 39)
             refine (HX2.out _ (HM4.out.keep HM4.out.b.size hb4).m).mono ?_
             rintro e w5 ⟨ga3, rfl, f3, hb5⟩
             have HM5 := Lib.hid ((HM4.out.keep HM4.out.b.size hb4).keep (Nat.le_trans HM4.out.b.size hb4.size) hb5)
             have HR5 := Lib.hid ((res_new2 w4 (.bool true) (.int .u32 VQ) (.int .u32 PF) (.int .u32 BT) (.int .i64 0) (.int .u32 0)).after hb5)
             clear hb4 hb5 k4 HM4 HR4)
          | (go_at_call 14
             refine (HD3.out _ HM5.out.m).mono ?_
             rintro e w6 ⟨rfl, h1, h2⟩
             have HM6 := Lib.hid (HM5.out.left HM5.out.b.size h1 h2)
             have z := HZ4.out
             have HR6 := Lib.hid (HR5.out.alt h2 ⟨by omega, by omega, by omega⟩ ⟨by omega, by omega, by omega⟩)
             have k6 := fun A B => (HR6.out.after (two_new w6 A B)).cells
             clear h1 h2 z f3 HM5 HD3 HR5)
          | (go_at_call 18
             have hb6 := two_new w6 (.cells #[.bool true, .int .u32 VQ, .int .u32 PF, .int .u32 BT] 37) (.cells #[.int .i64 0, .int .u32 0] 39)
             refine (HLK.out _ (HM6.out.keep HM6.out.b.size hb6).m).mono ?_
             rintro e wl ⟨rfl, m7, rfl⟩
             have HM7 := Lib.hid ((HM6.out.keep HM6.out.b.size hb6).keep (Nat.le_trans HM6.out.b.size hb6.size) (Below_drewN (Below.refl _ _) m7))
             have HR7 := Lib.hid ((HR6.out.after hb6).drewN m7)
             clear hb6 HM6 HR6)
          | (go_at_call 17
             refine (HX2.out _ HM7.out.m).mono ?_
             rintro e w8 ⟨ga4, rfl, f4, hb8⟩
             have HM8 := Lib.hid (HM7.out.keep HM7.out.b.size hb8)
             have k8 := (HR7.out.after hb8).cells
             clear hb8 k6 HM7 HR7)
          | (go_at_call 15
             refine (known8_any _).mono ?_
             rintro e wk ⟨rfl, hk⟩
             have HK := Lib.hid hk
             clear hk))
        go_ret
        exact ⟨rfl, HA.out.trans ((HM8.out.b.trans (HK.out.mono HM8.out.b.size)).mono hz)⟩
      · have h3b : (K == 3) = false := by simpa using h3
        clear g2
        go_wp2_with (first
          | (go_at_call 17
             refine (HX.out wb HM.out.m).mono ?_
             rintro e w1 ⟨ga, rfl, f1, hb1⟩
             have HM1 := Lib.hid (HM.out.keep HM.out.b.size hb1)
             clear hb1 HM)
          | (go_at_call 14
             refine (HD1.out w1 HM1.out.m).mono ?_
             rintro e w2 ⟨rfl, h1, h2⟩
             have HM2 := Lib.hid (HM1.out.left HM1.out.b.size h1 h2)
             have HZ := Lib.hid HM1.out.m.z
             have hs2 := h2.size
             clear h1 h2 f1 HM1 HD1)
          | (go_at_call 14
             have HR2 := Lib.hid (res_new2 w2 (.bool true) (.int .u32 VQ) (.int .u32 PF) (.int .u32 BT) (.int .i64 0) (.int .u32 0))
             have HM3 := Lib.hid (HM2.out.keep HM2.out.b.size (two_new w2 (.cells #[.bool true, .int .u32 VQ, .int .u32 PF, .int .u32 BT] 37) (.cells #[.int .i64 0, .int .u32 0] 39)))
             refine (HD2.out _ HM3.out.m).mono ?_
             rintro e w4 ⟨rfl, h1, h2⟩
             have HM4 := Lib.hid (HM3.out.left HM3.out.b.size h1 h2)
             have z := HZ.out
             have HR4 := Lib.hid (HR2.out.alt h2 ⟨by omega, by omega, by omega⟩ ⟨by omega, by omega, by omega⟩)
             have k4 := fun A B => (HR4.out.after (two_new w4 A B)).cells
             have HZ4 := Lib.hid HM4.out.m.z
             clear h1 h2 z HM3 HD2 HR2 HM2)
          | (go_at_call 17
             have hb4 := two_new w4 (.cells #[.bool true, .int .u32 VQ, .int .u32 PF, .int .u32 BT] 37) (.cells #[.int .i64 0, .int .u32 0] 39)
             refine (HX2.out _ (HM4.out.keep HM4.out.b.size hb4).m).mono ?_
             rintro e w5 ⟨ga3, rfl, f3, hb5⟩
             have HM5 := Lib.hid ((HM4.out.keep HM4.out.b.size hb4).keep (Nat.le_trans HM4.out.b.size hb4.size) hb5)
             have HR5 := Lib.hid ((res_new2 w4 (.bool true) (.int .u32 VQ) (.int .u32 PF) (.int .u32 BT) (.int .i64 0) (.int .u32 0)).after hb5)
             clear hb4 hb5 k4 HM4 HR4)
          | (go_at_call 14
             refine (HD3.out _ HM5.out.m).mono ?_
             rintro e w6 ⟨rfl, h1, h2⟩
             have HM6 := Lib.hid (HM5.out.left HM5.out.b.size h1 h2)
             have z := HZ4.out
             have HR6 := Lib.hid (HR5.out.alt h2 ⟨by omega, by omega, by omega⟩ ⟨by omega, by omega, by omega⟩)
             have k6 := fun A B => (HR6.out.after (two_new w6 A B)).cells
             clear h1 h2 z f3 HM5 HD3 HR5)
          | (go_at_call 18
             have hb6 := two_new w6 (.cells #[.bool true, .int .u32 VQ, .int .u32 PF, .int .u32 BT] 37) (.cells #[.int .i64 0, .int .u32 0] 39)
             refine (HLK.out _ (HM6.out.keep HM6.out.b.size hb6).m).mono ?_
             rintro e wl ⟨rfl, m7, rfl⟩
             have HM7 := Lib.hid ((HM6.out.keep HM6.out.b.size hb6).keep (Nat.le_trans HM6.out.b.size hb6.size) (Below_drewN (Below.refl _ _) m7))
             have HR7 := Lib.hid ((HR6.out.after hb6).drewN m7)
             clear hb6 HM6 HR6)
          | (go_at_call 17
             refine (HX2.out _ HM7.out.m).mono ?_
             rintro e w8 ⟨ga4, rfl, f4, hb8⟩
             have HM8 := Lib.hid (HM7.out.keep HM7.out.b.size hb8)
             have k8 := (HR7.out.after hb8).cells
             clear hb8 k6 HM7 HR7)
          | (go_at_call 15
             refine (known8_any _).mono ?_
             rintro e wk ⟨rfl, hk⟩
             have HK := Lib.hid hk
             clear hk))
        go_ret
        exact ⟨rfl, HA.out.trans ((HM8.out.b.trans (HK.out.mono HM8.out.b.size)).mono hz)⟩
end Go.Proofs.Ytoejpdhcibbgdaa

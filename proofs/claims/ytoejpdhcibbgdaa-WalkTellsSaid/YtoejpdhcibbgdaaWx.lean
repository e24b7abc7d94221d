/-
  innkeeperref8's Do: A CONTRACT.
-/
import Derived.Test.YtoejpdhcibbgdaaWo
namespace Go.Proofs.Ytoejpdhcibbgdaa
open Go.RowKit
set_option linter.unusedSimpArgs false
set_option linter.unusedVariables false

section
variable {q b t : Nat} {X : Rm}
theorem wr_ws (X : Rm) (a : Nat) (L : List Int) (w : World) (h : IsW w q b t (X.ws a L L.length)) : IsW w q b t (X.wr a L) := by
  refine h.cast ?_ (fun j _ => ?_) (fun j _ => ?_)
  · rw [wr_n, ws_n]
  · rw [wr_b, ws_b]
  · have h1 := wr_tu X a L j
    have h2 := ws_tu X a L j L.length
    rw [Bool.eq_iff_iff, h1, h2]
theorem Res.turn {w w' : World} {g h : Nat} {E T : Array Value} (r : Res w g h E T) (x : Turn b t w w') (h1 : g ≠ b) (h2 : g ≠ t) (h3 : h ≠ b) (h4 : h ≠ t) : Res w' g h E T :=
  ⟨(x.block _ r.e.lt h1 h2).trans r.e, (x.block _ r.t.lt h3 h4).trans r.t, r.z⟩
/-- the end of Do -/
theorem rdo_fin {w W : World} {Y : Rm} {g h : Nat} {E T : Array Value} (z : q < w.heap.size ∧ b < w.heap.size ∧ t < w.heap.size) (r : Res W g h E T) (hg : g = w.heap.size) (hh : h = w.heap.size + 1) (hM : IsW W q b t Y) (hA : Turn b t w W)
    {fn : Func} (hfn : fn.results = #[.cell 10 37, .cell 11 39]) (a b' c d e f : Value) (tmps : Array Value) (hp : tmps.getD 10 undef = .pointer (some ⟨g, 0, none⟩)) (hu : tmps.getD 11 undef = .pointer (some ⟨h, 0, none⟩)) :
    bodyPost Try.prog fn (fun e' w' => e' = .returned (.tuple #[.agg #[a, b', c, d], .agg #[e, f]]) ∧ IsW w' q b t Y ∧ Turn b t w w') .ret ⟨tmps, []⟩ (put2 W g h a b' c d e f) := by
  have hne : g ≠ h := by omega
  have r2 := put2_res r hne a b' c d e f
  have hb : Below w.heap.size W (put2 W g h a b' c d e f) := put2_below (Below.refl _ _) (by omega) (by omega) a b' c d e f
  have hs := hA.size
  refine bodyPost_ret (results_cell2 hfn _ _ g h _ _ _ _ hp hu r2.e r2.t Try.underlying37 Try.info_ent8 Try.underlying39 Try.info_trp8) rfl ⟨rfl, hM.belowB hb z, ?_⟩
  exact ⟨hb.os.trans hA.os, hb.tape.trans hA.tape, hb.output.trans hA.output, Nat.le_trans hs hb.size, fun i hi h1 h2 => (hb.block i hi).trans (hA.block i hi h1 h2)⟩
set_option maxRecDepth 100000 in
set_option maxHeartbeats 4000000 in
theorem rdo_any (r v : Nat) (hr : r < 4294967296) (hv : v < 4294967296) (k : Int) (s : Bool) (w : World) (hW : IsW w q b t X) (hX : X.Ok) :
    Calls Try.prog 27 #[.pointer (some ⟨q, 0, none⟩), .int .u32 r, .int .u32 v, .int .i64 k, .bool s] w fun e w' => e = .returned (.tuple #[X.doE r v k s, X.doT r v k s]) ∧ IsW w' q b t (X.doS r v k s) ∧ Turn b t w w' := by
  have HF := Lib.hid (rfault_any k)
  have hb0 : Below w.heap.size w ((w.alloc (.cells #[.bool false, .int .u32 0, .int .u32 0, .int .u32 0] 37)).alloc (.cells #[.int .i64 0, .int .u32 0] 39)) := ((Below.refl _ _).alloc (Nat.le_refl _) _).alloc (by simp) _
  have HM := Lib.hid hW
  have hM0 := hW.z
  cases hk : isK k
  · have hD : X.doB r v k s = false := by unfold Rm.doB; rw [hk]; rfl
    obtain ⟨e1, e2, e3⟩ := do_no hD
    rw [hk, if_neg (by simp)] at e3
    rw [e1, e2, e3]
    have hft := ft_no hk
    rw [hft] at HF
    have HB0 := Lib.hid hb0
    clear e1 e2 e3 hD hk hW hX hft hb0 hr hv
    unfold enV trV
    go_enter Try.func27, Try.ntmps27
    go_wp2_with (go_at_call 8; refine (HF.out _).mono ?_; rintro e w' ⟨rfl, rfl⟩)
    (try simp only [Exit.inBlock, Exit.then])
    have hb : Below w.heap.size w ((w.alloc (.cells #[.bool false, .int .u32 0, .int .u32 0, .int .u32 0] 37)).alloc (.cells #[.int .i64 10, .int .u32 v] 39)) := ((Below.refl _ _).alloc (Nat.le_refl _) _).alloc (by simp) _
    exact bodyPost_ret (results_cell2 rfl _ _ w.heap.size (w.heap.size + 1) _ _ _ _ rfl rfl (heap_alloc2_old _ _ _) (heap_alloc2_new _ _ _) Try.underlying37 Try.info_ent8 Try.underlying39 Try.info_trp8) rfl ⟨rfl, HM.out.below hb, Turn.of_below hb⟩
  · have hF0 : (ftV k == 0) = false := by
      have : 1 ≤ k ∧ k ≤ 3 := by simpa [isK] using hk
      rw [ft_yes hk]; simp; omega
    have hlk := fun W (hb : Below w.heap.size w W) => rlook_any r v hr hv W (hW.below hb) hX
    have hbt := rbits_any k s
    have hle := lkE_lt hX r v
    have hla := lkA_le hX r v
    have hnd := u32_and_nat (X.lkE r v) (btN k s) hle (by have := bt_lt k s; omega)
    have hn := hX.n1
    cases hD : X.doB r v k s
    · obtain ⟨e1, e2, e3⟩ := do_no hD
      rw [hk, if_pos rfl] at e3
      rw [e1, e2, e3]
      have hnn : X.lkB r v = true → ((((X.lkE r v &&& btN k s : Nat) : Int)) == ((btN k s : Nat) : Int)) = false := fun hl => by
        have : ¬ (X.lkE r v &&& btN k s = btN k s) := by simpa [Rm.doB, hk, hl] using hD
        simp; omega
      have HB0 := Lib.hid hb0
      have HL := Lib.hid hlk
      have HT := Lib.hid hbt
      unfold Told at HL
      clear e1 e2 e3 hD hk hW hX hb0 hr hv hlk hbt hle hla hn
      unfold enV trV
      generalize ftV k = F at *
      generalize ((X.lkE r v &&& btN k s : Nat) : Int) = Z at *
      generalize ((X.lkE r v : Nat) : Int) = L at *
      generalize ((X.lkA r v : Nat) : Int) = A at *
      generalize ((btN k s : Nat) : Int) = N at *
      generalize (v : Int) = V at *
      generalize (r : Int) = R at *
      have HZ := Lib.hid hM0
      cases hl : X.lkB r v
      · rw [hl] at HL
        clear hnn hnd hl
        go_enter Try.func27, Try.ntmps27
        go_wp2_with (first
          | (go_at_call 8; refine (HF.out _).mono ?_; rintro e w' ⟨rfl, rfl⟩)
          | (go_at_call 26; refine (HL.out _ HB0.out).mono ?_; rintro e w1 ⟨rfl, m1, rfl⟩)
          | (go_at_call 10; refine (HT.out _).mono ?_; rintro e w' ⟨rfl, rfl⟩))
        (try simp only [Exit.inBlock, Exit.then])
        exact rdo_fin HZ.out ((res_new w).drewN m1) rfl rfl ((HM.out.below HB0.out).drewN m1) (Turn.of_below (Below_drewN HB0.out m1)) rfl _ _ _ _ _ _ _ rfl rfl
      · have hz := hnn hl
        rw [hl] at HL
        have hz2 : ¬ Z = N := by simpa using hz
        clear hnn hl
        go_enter Try.func27, Try.ntmps27
        go_wp2_with (first
          | (go_at_call 8; refine (HF.out _).mono ?_; rintro e w' ⟨rfl, rfl⟩)
          | (go_at_call 26; refine (HL.out _ HB0.out).mono ?_; rintro e w1 ⟨rfl, m1, rfl⟩)
          | (go_at_call 10; refine (HT.out _).mono ?_; rintro e w' ⟨rfl, rfl⟩))
        (try simp only [Exit.inBlock, Exit.then])
        exact rdo_fin HZ.out ((res_new w).drewN m1) rfl rfl ((HM.out.below HB0.out).drewN m1) (Turn.of_below (Below_drewN HB0.out m1)) rfl _ _ _ _ _ _ _ rfl rfl
    · obtain ⟨e1, e2, e3⟩ := do_yes hD
      have hl : X.lkB r v = true ∧ X.lkE r v &&& btN k s = btN k s := by simpa [Rm.doB, hk] using hD
      rw [e1, e2, e3]
      rw [hl.2] at hnd
      have hus : X.us r v k < 4294967296 := or_lt _ _ hle (mk_lt k)
      have h94 : bits .and .u32 ((X.us r v k : Nat) : Int) 94 = ((X.us r v k &&& 94 : Nat) : Int) := u32_and_nat _ 94 hus (by omega)
      have hqd : ((X.lkE r v : Nat) : Int) / 256 = ((X.us r v k / 256 : Nat) : Int) := by unfold Rm.us; rw [or_div _ _ (mk_lt k)]; omega
      have hq : ((v : Int)).tdiv 64 = ((v / 64 : Nat) : Int) := by rw [Int.tdiv_eq_ediv_of_nonneg (by omega)]; omega
      have hq1 : (0 : Int) ≤ ((v / 64 : Nat) : Int) := by omega
      have hq2 : ((v / 64 : Nat) : Int) < 4294967296 := by omega
      have hne : (((X.us r v k : Nat) : Int) == ((X.lkE r v : Nat) : Int)) = decide (X.us r v k = X.lkE r v) := by
        by_cases h : X.us r v k = X.lkE r v
        · rw [h]; simp
        · rw [decide_eq_false h]; simp; omega
      rw [hl.1] at hlk
      have HB0 := Lib.hid hb0
      have HL := Lib.hid hlk
      have HT := Lib.hid hbt
      unfold Told at HL
      have HZ := Lib.hid hM0
      have hLb : (0 : Int) ≤ ((X.lkE r v : Nat) : Int) := by omega
      have hLb2 : ((X.lkE r v : Nat) : Int) < 4294967296 := by omega
      have hUb : (0 : Int) ≤ ((X.us r v k : Nat) : Int) := by omega
      have hUb2 : ((X.us r v k : Nat) : Int) < 4294967296 := by omega
      have hor : (k = 3 ∧ ∃ O : Int, bits .or .u32 ((X.lkE r v : Nat) : Int) 32 = O ∧ bits .or .u32 O 64 = ((X.us r v k : Nat) : Int)) ∨ (k ≠ 3 ∧ bits .or .u32 ((X.lkE r v : Nat) : Int) 32 = ((X.us r v k : Nat) : Int)) := by
        by_cases h3 : k = 3
        · refine .inl ⟨h3, _, rfl, ?_⟩
          have e4 : bits .or .u32 ((X.lkE r v : Nat) : Int) 32 = ((X.lkE r v ||| 32 : Nat) : Int) := u32_or_nat _ 32 hle (by omega)
          have e5 : bits .or .u32 ((X.lkE r v ||| 32 : Nat) : Int) 64 = (((X.lkE r v ||| 32) ||| 64 : Nat) : Int) := u32_or_nat _ 64 (or_lt _ _ hle (by omega)) (by omega)
          rw [e4, e5, or_or]
          unfold Rm.us mkN; rw [if_pos h3]
        · refine .inr ⟨h3, ?_⟩
          have e4 : bits .or .u32 ((X.lkE r v : Nat) : Int) 32 = ((X.lkE r v ||| 32 : Nat) : Int) := u32_or_nat _ 32 hle (by omega)
          rw [e4]
          unfold Rm.us mkN; rw [if_neg h3]
      clear e1 e2 e3 hD hk hb0 hr hv hlk hbt hle hl hus hW
      unfold enV trV
      generalize hU : X.us r v k = u at *
      generalize hE : X.lkE r v = l at *
      clear hU hE
      generalize ftV k = F at *
      generalize ((u &&& 94 : Nat) : Int) = B at *
      generalize ((u / 256 : Nat) : Int) = Q at *
      generalize ((btN k s : Nat) : Int) = N at *
      generalize ((v / 64 : Nat) : Int) = VQ at *
      generalize (v : Int) = V at *
      generalize (r : Int) = R at *
      by_cases hul : u = l
      · subst hul
        rw [if_neg (by simp)]
        rw [decide_eq_true rfl] at hne
        generalize ((u : Nat) : Int) = U at *
        generalize ((X.lkA r v : Nat) : Int) = A at *
        clear hX hla hn
        rcases hor with ⟨rfl, O, o1, o2⟩ | ⟨h3, o1⟩
        · go_enter Try.func27, Try.ntmps27
          go_wp2_with (first
            | (go_at_call 8; refine (HF.out _).mono ?_; rintro e w' ⟨rfl, rfl⟩)
            | (go_at_call 26; refine (HL.out _ HB0.out).mono ?_; rintro e w1 ⟨rfl, m1, rfl⟩)
            | (go_at_call 10; refine (HT.out _).mono ?_; rintro e w' ⟨rfl, rfl⟩))
          (try simp only [Exit.inBlock, Exit.then])
          exact rdo_fin HZ.out ((res_new w).drewN m1) rfl rfl ((HM.out.below HB0.out).drewN m1) (Turn.of_below (Below_drewN HB0.out m1)) rfl _ _ _ _ _ _ _ rfl rfl
        · have h3b : (k == 3) = false := by simpa using h3
          go_enter Try.func27, Try.ntmps27
          go_wp2_with (first
            | (go_at_call 8; refine (HF.out _).mono ?_; rintro e w' ⟨rfl, rfl⟩)
            | (go_at_call 26; refine (HL.out _ HB0.out).mono ?_; rintro e w1 ⟨rfl, m1, rfl⟩)
            | (go_at_call 10; refine (HT.out _).mono ?_; rintro e w' ⟨rfl, rfl⟩))
          (try simp only [Exit.inBlock, Exit.then])
          exact rdo_fin HZ.out ((res_new w).drewN m1) rfl rfl ((HM.out.below HB0.out).drewN m1) (Turn.of_below (Below_drewN HB0.out m1)) rfl _ _ _ _ _ _ _ rfl rfl
      · rw [if_pos hul]
        rw [decide_eq_false hul] at hne
        have hput := fun (i : Nat) (hi : i < 4) (x : Int) W (h : IsW W q b t (X.ws (X.lkA r v) (w4 ((u : Nat) : Int)) i)) => rput_any (X.lkA r v + i) x W h (by rw [ws_n]; exact hn.2) (by rw [ws_n]; omega)
        have hA4 : ((X.lkA r v : Nat) : Int) < 4096 := by omega
        have hA0 : (0 : Int) ≤ ((X.lkA r v : Nat) : Int) := by omega
        have HPUT := Lib.hid hput
        have HY := Lib.hid (fun W (h : IsW W q b t (X.ws (X.lkA r v) (w4 ((u : Nat) : Int)) 4)) => wr_ws X _ _ W h)
        have HW0 := Lib.hid (show ∀ W, IsW W q b t X → IsW W q b t (X.ws (X.lkA r v) (w4 ((u : Nat) : Int)) 0) from fun _ h => h)
        have HWS := Lib.hid (show ∀ i, X.ws (X.lkA r v) (w4 ((u : Nat) : Int)) (i + 1) = (X.ws (X.lkA r v) (w4 ((u : Nat) : Int)) i).w1 (X.lkA r v + i) ((w4 ((u : Nat) : Int)).getD i 0) from fun _ => rfl)
        generalize hY : X.wr (X.lkA r v) (w4 ((u : Nat) : Int)) = Y at *
        generalize hG : X.ws (X.lkA r v) (w4 ((u : Nat) : Int)) = G at *
        generalize ((u : Nat) : Int) = U at *
        generalize ((l : Nat) : Int) = L at *
        generalize X.lkA r v = a at *
        have hne2 : ¬ U = L := by simpa using hne
        have hne3 : (U != L) = true := by simpa using hne2
        clear hul hX hla hn hput hY hG
        rcases hor with ⟨rfl, O, o1, o2⟩ | ⟨h3, o1⟩
        · go_enter Try.func27, Try.ntmps27
          go_wp2_with (first
            | (go_at_call 8; refine (HF.out _).mono ?_; rintro e w' ⟨rfl, rfl⟩)
            | (go_at_call 26; refine (HL.out _ HB0.out).mono ?_; rintro e w1 ⟨rfl, m1, rfl⟩)
            | (go_at_call 10; refine (HT.out _).mono ?_; rintro e w' ⟨rfl, rfl⟩))
          go_loopw [17] (fun i wr => ∃ n : Nat, n ≤ 4 ∧ i = .int .u64 n ∧ Hid (IsW wr q b t (G n)) ∧ Hid (Turn b t w wr) ∧ Hid (Res wr w.heap.size (w.heap.size + 1) zE zT)) (fun i _ => 4 - (intOf i).toNat)
          case atStart => exact ⟨0, by omega, rfl, Lib.hid (HW0.out _ ((HM.out.below HB0.out).drewN m1)), Lib.hid (Turn.of_below (Below_drewN HB0.out m1)), Lib.hid ((res_new w).drewN m1)⟩
          case round =>
            obtain ⟨n, hn, rfl, hG, hT, hR⟩ := hrel
            have hws := HWS.out n
            have z := HZ.out
            by_cases hlt : n < 4
            · have hp0 := fun (x : Int) => HPUT.out n hlt x wr hG.out
              rcases (show n = 0 ∨ n = 1 ∨ n = 2 ∨ n = 3 by omega) with rfl | rfl | rfl | rfl
              · have hp := hp0 (U % 256)
                rw [show (U % 256 : Int) = (w4 U).getD 0 0 from rfl, ← hws, show (w4 U).getD 0 0 = U % 256 from rfl, Nat.add_zero] at hp
                have HP := Lib.hid hp
                clear hp hp0 hws
                go_wp2_with (go_at_call 44; refine HP.out.mono ?_; rintro e w2 ⟨rfl, h1, h2⟩; have H1 := Lib.hid h1; have H2 := Lib.hid h2; clear h1 h2 HP)
                go_roundw
                case rel => exact ⟨1, by omega, by go_num, H1, Lib.hid (hT.out.trans H2.out), Lib.hid (hR.out.turn H2.out (by omega) (by omega) (by omega) (by omega))⟩
                case measure => simp [intOf]
              · have hp := hp0 (U / 256 % 256)
                rw [show (U / 256 % 256 : Int) = (w4 U).getD 1 0 from rfl, ← hws, show (w4 U).getD 1 0 = U / 256 % 256 from rfl, Int.natCast_add, show ((1 : Nat) : Int) = 1 from rfl] at hp
                have HP := Lib.hid hp
                clear hp hp0 hws
                go_wp2_with (go_at_call 44; refine HP.out.mono ?_; rintro e w2 ⟨rfl, h1, h2⟩; have H1 := Lib.hid h1; have H2 := Lib.hid h2; clear h1 h2 HP)
                go_roundw
                case rel => exact ⟨2, by omega, by go_num, H1, Lib.hid (hT.out.trans H2.out), Lib.hid (hR.out.turn H2.out (by omega) (by omega) (by omega) (by omega))⟩
                case measure => simp [intOf]
              · have hp := hp0 (U / 65536 % 256)
                rw [show (U / 65536 % 256 : Int) = (w4 U).getD 2 0 from rfl, ← hws, show (w4 U).getD 2 0 = U / 65536 % 256 from rfl, Int.natCast_add, show ((2 : Nat) : Int) = 2 from rfl] at hp
                have HP := Lib.hid hp
                clear hp hp0 hws
                go_wp2_with (go_at_call 44; refine HP.out.mono ?_; rintro e w2 ⟨rfl, h1, h2⟩; have H1 := Lib.hid h1; have H2 := Lib.hid h2; clear h1 h2 HP)
                go_roundw
                case rel => exact ⟨3, by omega, by go_num, H1, Lib.hid (hT.out.trans H2.out), Lib.hid (hR.out.turn H2.out (by omega) (by omega) (by omega) (by omega))⟩
                case measure => simp [intOf]
              · have hp := hp0 (U / 16777216)
                have hu2 : U / 16777216 < 256 := by omega
                have hu1 : 0 ≤ U / 16777216 := by omega
                rw [show (U / 16777216 : Int) = (w4 U).getD 3 0 from rfl, ← hws, show (w4 U).getD 3 0 = U / 16777216 from rfl, Int.natCast_add, show ((3 : Nat) : Int) = 3 from rfl] at hp
                have HP := Lib.hid hp
                clear hp hp0 hws
                go_wp2_with (go_at_call 44; refine HP.out.mono ?_; rintro e w2 ⟨rfl, h1, h2⟩; have H1 := Lib.hid h1; have H2 := Lib.hid h2; clear h1 h2 HP)
                go_roundw
                case rel => exact ⟨4, by omega, by go_num, H1, Lib.hid (hT.out.trans H2.out), Lib.hid (hR.out.turn H2.out (by omega) (by omega) (by omega) (by omega))⟩
                case measure => simp [intOf]
            · obtain rfl : n = 4 := by omega
              have hc := hR.out.cel
              obtain ⟨c0, k0⟩ := hc.e0
              obtain ⟨c1, k1⟩ := hc.e1
              obtain ⟨c2, k2⟩ := hc.e2
              obtain ⟨c3, k3⟩ := hc.e3
              obtain ⟨c4, k4⟩ := hc.t0
              obtain ⟨c5, k5⟩ := hc.t1
              have f1 := hc.fe
              have f2 := hc.ft
              clear hc hlt hn hws z
              go_wp2
              (try simp only [Exit.inBlock, Exit.then])
              exact rdo_fin HZ.out hR.out rfl rfl (HY.out _ hG.out) hT.out rfl _ _ _ _ _ _ _ rfl rfl
        · have h3b : (k == 3) = false := by simpa using h3
          go_enter Try.func27, Try.ntmps27
          go_wp2_with (first
            | (go_at_call 8; refine (HF.out _).mono ?_; rintro e w' ⟨rfl, rfl⟩)
            | (go_at_call 26; refine (HL.out _ HB0.out).mono ?_; rintro e w1 ⟨rfl, m1, rfl⟩)
            | (go_at_call 10; refine (HT.out _).mono ?_; rintro e w' ⟨rfl, rfl⟩))
          go_loopw [17] (fun i wr => ∃ n : Nat, n ≤ 4 ∧ i = .int .u64 n ∧ Hid (IsW wr q b t (G n)) ∧ Hid (Turn b t w wr) ∧ Hid (Res wr w.heap.size (w.heap.size + 1) zE zT)) (fun i _ => 4 - (intOf i).toNat)
          case atStart => exact ⟨0, by omega, rfl, Lib.hid (HW0.out _ ((HM.out.below HB0.out).drewN m1)), Lib.hid (Turn.of_below (Below_drewN HB0.out m1)), Lib.hid ((res_new w).drewN m1)⟩
          case round =>
            obtain ⟨n, hn, rfl, hG, hT, hR⟩ := hrel
            have hws := HWS.out n
            have z := HZ.out
            by_cases hlt : n < 4
            · have hp0 := fun (x : Int) => HPUT.out n hlt x wr hG.out
              rcases (show n = 0 ∨ n = 1 ∨ n = 2 ∨ n = 3 by omega) with rfl | rfl | rfl | rfl
              · have hp := hp0 (U % 256)
                rw [show (U % 256 : Int) = (w4 U).getD 0 0 from rfl, ← hws, show (w4 U).getD 0 0 = U % 256 from rfl, Nat.add_zero] at hp
                have HP := Lib.hid hp
                clear hp hp0 hws
                go_wp2_with (go_at_call 44; refine HP.out.mono ?_; rintro e w2 ⟨rfl, h1, h2⟩; have H1 := Lib.hid h1; have H2 := Lib.hid h2; clear h1 h2 HP)
                go_roundw
                case rel => exact ⟨1, by omega, by go_num, H1, Lib.hid (hT.out.trans H2.out), Lib.hid (hR.out.turn H2.out (by omega) (by omega) (by omega) (by omega))⟩
                case measure => simp [intOf]
              · have hp := hp0 (U / 256 % 256)
                rw [show (U / 256 % 256 : Int) = (w4 U).getD 1 0 from rfl, ← hws, show (w4 U).getD 1 0 = U / 256 % 256 from rfl, Int.natCast_add, show ((1 : Nat) : Int) = 1 from rfl] at hp
                have HP := Lib.hid hp
                clear hp hp0 hws
                go_wp2_with (go_at_call 44; refine HP.out.mono ?_; rintro e w2 ⟨rfl, h1, h2⟩; have H1 := Lib.hid h1; have H2 := Lib.hid h2; clear h1 h2 HP)
                go_roundw
                case rel => exact ⟨2, by omega, by go_num, H1, Lib.hid (hT.out.trans H2.out), Lib.hid (hR.out.turn H2.out (by omega) (by omega) (by omega) (by omega))⟩
                case measure => simp [intOf]
              · have hp := hp0 (U / 65536 % 256)
                rw [show (U / 65536 % 256 : Int) = (w4 U).getD 2 0 from rfl, ← hws, show (w4 U).getD 2 0 = U / 65536 % 256 from rfl, Int.natCast_add, show ((2 : Nat) : Int) = 2 from rfl] at hp
                have HP := Lib.hid hp
                clear hp hp0 hws
                go_wp2_with (go_at_call 44; refine HP.out.mono ?_; rintro e w2 ⟨rfl, h1, h2⟩; have H1 := Lib.hid h1; have H2 := Lib.hid h2; clear h1 h2 HP)
                go_roundw
                case rel => exact ⟨3, by omega, by go_num, H1, Lib.hid (hT.out.trans H2.out), Lib.hid (hR.out.turn H2.out (by omega) (by omega) (by omega) (by omega))⟩
                case measure => simp [intOf]
              · have hp := hp0 (U / 16777216)
                have hu2 : U / 16777216 < 256 := by omega
                have hu1 : 0 ≤ U / 16777216 := by omega
                rw [show (U / 16777216 : Int) = (w4 U).getD 3 0 from rfl, ← hws, show (w4 U).getD 3 0 = U / 16777216 from rfl, Int.natCast_add, show ((3 : Nat) : Int) = 3 from rfl] at hp
                have HP := Lib.hid hp
                clear hp hp0 hws
                go_wp2_with (go_at_call 44; refine HP.out.mono ?_; rintro e w2 ⟨rfl, h1, h2⟩; have H1 := Lib.hid h1; have H2 := Lib.hid h2; clear h1 h2 HP)
                go_roundw
                case rel => exact ⟨4, by omega, by go_num, H1, Lib.hid (hT.out.trans H2.out), Lib.hid (hR.out.turn H2.out (by omega) (by omega) (by omega) (by omega))⟩
                case measure => simp [intOf]
            · obtain rfl : n = 4 := by omega
              have hc := hR.out.cel
              obtain ⟨c0, k0⟩ := hc.e0
              obtain ⟨c1, k1⟩ := hc.e1
              obtain ⟨c2, k2⟩ := hc.e2
              obtain ⟨c3, k3⟩ := hc.e3
              obtain ⟨c4, k4⟩ := hc.t0
              obtain ⟨c5, k5⟩ := hc.t1
              have f1 := hc.fe
              have f2 := hc.ft
              clear hc hlt hn hws z
              go_wp2
              (try simp only [Exit.inBlock, Exit.then])
              exact rdo_fin HZ.out hR.out rfl rfl (HY.out _ hG.out) hT.out rfl _ _ _ _ _ _ _ rfl rfl
end
end Go.Proofs.Ytoejpdhcibbgdaa

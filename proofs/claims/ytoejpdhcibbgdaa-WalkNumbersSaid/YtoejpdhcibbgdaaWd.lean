/-
  walk.Do: A CONTRACT.
-/
import Derived.Test.YtoejpdhcibbgdaaWl
namespace Go.Proofs.Ytoejpdhcibbgdaa
open Go.RowKit
set_option linter.unusedSimpArgs false
set_option linter.unusedVariables false

theorem Try.info_ent8 : (Try.prog.info? 37).map (·.size) = some 4 := by kernel_rfl
theorem Try.info_trp8 : (Try.prog.info? 39).map (·.size) = some 2 := by kernel_rfl
/-- two results that stand in blocks of their own -/
theorem results_cell2 {fn : Func} {p u : Tmp} {tp tu : TypeId} {P : Program} {f1 f2} (h : fn.results = #[.cell p tp, .cell u tu]) (tmps : Array Value) (w : World) (g1 g2 : Nat) (t1 t2 : TypeId) (c1 c2 : Array Value)
    (hp : tmps.getD p undef = .pointer (some ⟨g1, 0, none⟩)) (hu : tmps.getD u undef = .pointer (some ⟨g2, 0, none⟩)) (h1 : w.heap[g1]? = some (.cells c1 t1 (0, 0))) (h2 : w.heap[g2]? = some (.cells c2 t2 (0, 0)))
    (hu1 : P.underlying tp = some (.struct f1)) (hi1 : (P.info? tp).map (·.size) = some c1.size)
    (hu2 : P.underlying tu = some (.struct f2)) (hi2 : (P.info? tu).map (·.size) = some c2.size) :
    (results fn tmps).run P w = .ok (.tuple #[.agg c1, .agg c2]) w := by
  have hp' : tmps[p]?.getD undef = .pointer (some ⟨g1, 0, none⟩) := by simpa using hp
  have hu' : tmps[u]?.getD undef = .pointer (some ⟨g2, 0, none⟩) := by simpa using hu
  simp [results, h, hp', hu', asAddr, run_loadVar_row w g1 t1 tp c1 (0, 0) _ h1 hu1 rfl hi1, run_loadVar_row w g2 t2 tu c2 (0, 0) _ h2 hu2 rfl hi2, Sem.run_bind, Result.andThen]
/-- an entry and a trap, in blocks of their own -/
structure Res (w : World) (g h : Nat) (E T : Array Value) : Prop where
  e : Blk w g 37 E
  t : Blk w h 39 T
  z : E.size = 4 ∧ T.size = 2
section
variable {w w' : World} {g h : Nat} {E T : Array Value}
theorem Res.below (r : Res w g h E T) {B : Nat} (hb : Below B w w') (h1 : g < B) (h2 : h < B) : Res w' g h E T := ⟨r.e.below hb h1, r.t.below hb h2, r.z⟩
theorem Res.alt {p : Bl} (r : Res w g h E T) (a : Alt p w w') (h1 : g ≠ p.g ∧ g ≠ p.r ∧ g ≠ p.u) (h2 : h ≠ p.g ∧ h ≠ p.r ∧ h ≠ p.u) : Res w' g h E T :=
  ⟨(a.block g r.e.lt h1.1 h1.2.1 h1.2.2).trans r.e, (a.block h r.t.lt h2.1 h2.2.1 h2.2.2).trans r.t, r.z⟩
end
theorem Res.drewN {w : World} {g h : Nat} {E T : Array Value} (r : Res w g h E T) (m : Nat) : Res (w.drewN m) g h E T := r.below (Below_drewN (Below.refl (max g h + 1) _) m) (by omega) (by omega)
def zE : Array Value := #[.bool false, .int .u32 0, .int .u32 0, .int .u32 0]
def zT : Array Value := #[.int .i64 0, .int .u32 0]
theorem res_new (w : World) : Res ((w.alloc (.cells #[.bool false, .int .u32 0, .int .u32 0, .int .u32 0] 37)).alloc (.cells #[.int .i64 0, .int .u32 0] 39)) w.heap.size (w.heap.size + 1) zE zT :=
  ⟨heap_alloc2_old _ _ _, heap_alloc2_new _ _ _, rfl, rfl⟩
/-- the world behind the writes of both results -/
def put2 (w : World) (g h : Nat) (a b c d e f : Value) : World :=
  (((((w.setCell ⟨g, 0, none⟩ a).setCell ⟨g, 1, none⟩ b).setCell ⟨g, 2, none⟩ c).setCell ⟨g, 3, none⟩ d).setCell ⟨h, 0, none⟩ e).setCell ⟨h, 1, none⟩ f
theorem put2_res {w : World} {g h : Nat} {E T : Array Value} (r : Res w g h E T) (hne : g ≠ h) (a b c d e f : Value) : Res (put2 w g h a b c d e f) g h #[a, b, c, d] #[e, f] := by
  have z := r.z
  refine ⟨?_, ?_, rfl, rfl⟩
  · have h1 := ((((r.e.put 0 a).put 1 b).put 2 c).put 3 d)
    have h2 := (h1.far (p := ⟨h, 0, none⟩) hne e).far (p := ⟨h, 1, none⟩) hne f
    have : (((E.setIfInBounds 0 a).setIfInBounds 1 b).setIfInBounds 2 c).setIfInBounds 3 d = #[a, b, c, d] := by
      obtain ⟨l⟩ := E
      match l, z.1 with
      | [x0, x1, x2, x3], _ => rfl
    rw [this] at h2; exact h2
  · have h1 := ((((r.t.far (p := ⟨g, 0, none⟩) hne.symm a).far (p := ⟨g, 1, none⟩) hne.symm b).far (p := ⟨g, 2, none⟩) hne.symm c).far (p := ⟨g, 3, none⟩) hne.symm d)
    have h2 := (h1.put 0 e).put 1 f
    have : (T.setIfInBounds 0 e).setIfInBounds 1 f = #[e, f] := by
      obtain ⟨l⟩ := T
      match l, z.2 with
      | [x0, x1], _ => rfl
    rw [this] at h2; exact h2
theorem put2_below {w w0 : World} {g h B : Nat} (hb : Below B w0 w) (h1 : B ≤ g) (h2 : B ≤ h) (a b c d e f : Value) : Below B w0 (put2 w g h a b c d e f) :=
  (((((hb.setCell h1 _).setCell h1 _).setCell h1 _).setCell h1 _).setCell h2 _).setCell h2 _
/-- what a store of both wants -/
structure Cel (w : World) (g h : Nat) : Prop where
  e0 : ∃ v, w.cell? ⟨g, 0, none⟩ = some v
  e1 : ∃ v, w.cell? ⟨g, 1, none⟩ = some v
  e2 : ∃ v, w.cell? ⟨g, 2, none⟩ = some v
  e3 : ∃ v, w.cell? ⟨g, 3, none⟩ = some v
  t0 : ∃ v, w.cell? ⟨h, 0, none⟩ = some v
  t1 : ∃ v, w.cell? ⟨h, 1, none⟩ = some v
  fe : ∀ i, w.frozen? ⟨g, i, none⟩ = false
  ft : ∀ i, w.frozen? ⟨h, i, none⟩ = false
theorem Res.cel {w : World} {g h : Nat} {E T : Array Value} (r : Res w g h E T) : Cel w g h := by
  have z := r.z
  obtain ⟨l⟩ := E
  obtain ⟨m⟩ := T
  match l, m, z with
  | [x0, x1, x2, x3], [y0, y1], _ => exact ⟨⟨x0, r.e.cell 0⟩, ⟨x1, r.e.cell 1⟩, ⟨x2, r.e.cell 2⟩, ⟨x3, r.e.cell 3⟩, ⟨y0, r.t.cell 0⟩, ⟨y1, r.t.cell 1⟩, r.e.frozen, r.t.frozen⟩
section
variable {p : Bl} {X : Rm}
/-- the end of Do -/
theorem do_fin {w W : World} {Y : Rm} {g h : Nat} {E T : Array Value} (z : p.g < w.heap.size ∧ p.h < w.heap.size ∧ p.r < w.heap.size ∧ p.m < w.heap.size ∧ p.u < w.heap.size) (r : Res W g h E T) (hg : g = w.heap.size) (hh : h = w.heap.size + 1) (hM : IsM W p Y) (hA : Alt p w W)
    {fn : Func} (hfn : fn.results = #[.cell 10 37, .cell 11 39]) (a b c d e f : Value) (tmps : Array Value) (hp : tmps.getD 10 undef = .pointer (some ⟨g, 0, none⟩)) (hu : tmps.getD 11 undef = .pointer (some ⟨h, 0, none⟩)) :
    bodyPost Try.prog fn (fun e' w' => e' = .returned (.tuple #[.agg #[a, b, c, d], .agg #[e, f]]) ∧ IsM w' p Y ∧ Alt p w w') .ret ⟨tmps, []⟩ (put2 W g h a b c d e f) := by
  have hne : g ≠ h := by omega
  have r2 := put2_res r hne a b c d e f
  have hb : Below w.heap.size W (put2 W g h a b c d e f) := put2_below (Below.refl _ _) (by omega) (by omega) a b c d e f
  exact bodyPost_ret (results_cell2 hfn _ _ g h _ _ _ _ hp hu r2.e r2.t Try.underlying37 Try.info_ent8 Try.underlying39 Try.info_trp8) rfl ⟨rfl, hM.belowB hb z, hA.then_below hb⟩
set_option maxRecDepth 100000 in
/-- of no memory -/
theorem do_nil (r v : Nat) (k : Int) (s : Bool) (w : World) :
    Calls Try.prog 14 #[.pointer none, .int .u32 r, .int .u32 v, .int .i64 k, .bool s] w fun e w' => e = .returned (.tuple #[enV false 0 0 0, trV 10 v]) ∧ Below w.heap.size w w' := by
  unfold enV trV
  have HF := Lib.hid (fault_any k)
  go_enter Try.func14, Try.ntmps14
  go_wp2_with (go_at_call 7; refine (HF.out _).mono ?_; rintro e w' ⟨rfl, rfl⟩)
  (try simp only [Exit.inBlock, Exit.then])
  exact bodyPost_ret (results_cell2 rfl _ _ w.heap.size (w.heap.size + 1) _ _ _ _ rfl rfl (heap_alloc2_old _ _ _) (heap_alloc2_new _ _ _) Try.underlying37 Try.info_ent8 Try.underlying39 Try.info_trp8) rfl ⟨rfl, ((Below.refl _ _).alloc (Nat.le_refl _) _).alloc (by simp) _⟩
theorem do_no {r v : Nat} {k : Int} {s : Bool} (h : X.doB r v k s = false) : X.doS r v k s = X ∧ X.doE r v k s = enV false 0 0 0 ∧ X.doT r v k s = trV (if isK k = true then ftV k else 10) v := by
  unfold Rm.doS Rm.doE Rm.doT trC trA
  rw [h]
  exact ⟨by rw [if_neg (by simp)], rfl, rfl⟩
theorem do_yes {r v : Nat} {k : Int} {s : Bool} (h : X.doB r v k s = true) : X.doS r v k s = (if X.us r v k ≠ X.lkE r v then X.wr (X.lkA r v) (w4 (X.us r v k : Nat)) else X) ∧ X.doE r v k s = enV true (v / 64) (X.us r v k / 256) (X.us r v k &&& 94) ∧ X.doT r v k s = trV 0 0 := by
  unfold Rm.doS Rm.doE Rm.doT trC trA
  rw [h]
  exact ⟨by simp, rfl, rfl⟩
set_option maxRecDepth 100000 in
set_option maxHeartbeats 2000000 in
theorem do_any (r v : Nat) (hr : r < 4294967296) (hv : v < 4294967296) (k : Int) (s : Bool) (w : World) (hM : IsM w p X) :
    Calls Try.prog 14 #[.pointer (some ⟨p.m, 0, none⟩), .int .u32 r, .int .u32 v, .int .i64 k, .bool s] w (Left p (X.doS r v k s) (.tuple #[X.doE r v k s, X.doT r v k s]) w) := by
  have HF := Lib.hid (fault_any k)
  have hb0 : Below w.heap.size w ((w.alloc (.cells #[.bool false, .int .u32 0, .int .u32 0, .int .u32 0] 37)).alloc (.cells #[.int .i64 0, .int .u32 0] 39)) := ((Below.refl _ _).alloc (Nat.le_refl _) _).alloc (by simp) _
  have HM := Lib.hid hM
  have hM0 := hM.z
  unfold Left
  cases hk : isK k
  · have hD : X.doB r v k s = false := by unfold Rm.doB; rw [hk]; rfl
    obtain ⟨e1, e2, e3⟩ := do_no hD
    rw [hk, if_neg (by simp)] at e3
    rw [e1, e2, e3]
    have hft := ft_no hk
    rw [hft] at HF
    have HB0 := Lib.hid hb0
    clear e1 e2 e3 hD hk hM hft hb0 hr hv
    unfold enV trV
    go_enter Try.func14, Try.ntmps14
    go_wp2_with (go_at_call 7; refine (HF.out _).mono ?_; rintro e w' ⟨rfl, rfl⟩)
    (try simp only [Exit.inBlock, Exit.then])
    have hb : Below w.heap.size w ((w.alloc (.cells #[.bool false, .int .u32 0, .int .u32 0, .int .u32 0] 37)).alloc (.cells #[.int .i64 10, .int .u32 v] 39)) := ((Below.refl _ _).alloc (Nat.le_refl _) _).alloc (by simp) _
    exact bodyPost_ret (results_cell2 rfl _ _ w.heap.size (w.heap.size + 1) _ _ _ _ rfl rfl (heap_alloc2_old _ _ _) (heap_alloc2_new _ _ _) Try.underlying37 Try.info_ent8 Try.underlying39 Try.info_trp8) rfl ⟨rfl, HM.out.below hb, Alt.of_below hb⟩
  · have hF0 : (ftV k == 0) = false := by
      have : 1 ≤ k ∧ k ≤ 3 := by simpa [isK] using hk
      rw [ft_yes hk]; simp; omega
    have hlk := fun W (hb : Below w.heap.size w W) => look_any r v hr hv W (hM.below hb)
    have hbt := bits_any k s
    have hle := lkE_lt hM.ok r v
    have hla := lkA_le hM.ok r v
    have hnd := u32_and_nat (X.lkE r v) (btN k s) hle (by have := bt_lt k s; omega)
    have hn := hM.n1
    cases hD : X.doB r v k s
    · obtain ⟨e1, e2, e3⟩ := do_no hD
      rw [hk, if_pos rfl] at e3
      rw [e1, e2, e3]
      have hnn : X.lkB r v = true → ((((X.lkE r v &&& btN k s : Nat) : Int)) == ((btN k s : Nat) : Int)) = false := fun hl => by
        have : ¬ (X.lkE r v &&& btN k s = btN k s) := by simpa [Rm.doB, hk, hl] using hD
        simp; omega
      have HB0 := Lib.hid hb0
      have HL := Lib.hid hlk
      have HT := Lib.hid hbt
      unfold Told at HL
      clear e1 e2 e3 hD hk hM hb0 hr hv hlk hbt hle hla hn
      unfold enV trV
      generalize ftV k = F at *
      generalize ((X.lkE r v &&& btN k s : Nat) : Int) = Z at *
      generalize ((X.lkE r v : Nat) : Int) = L at *
      generalize ((X.lkA r v : Nat) : Int) = A at *
      generalize ((btN k s : Nat) : Int) = N at *
      generalize (v : Int) = V at *
      generalize (r : Int) = R at *
      have HZ := Lib.hid hM0
      cases hl : X.lkB r v
      · rw [hl] at HL
        clear hnn hnd hl
        go_enter Try.func14, Try.ntmps14
        go_wp2_with (first
          | (go_at_call 7; refine (HF.out _).mono ?_; rintro e w' ⟨rfl, rfl⟩)
          | (go_at_call 18; refine (HL.out _ HB0.out).mono ?_; rintro e w1 ⟨rfl, m1, rfl⟩)
          | (go_at_call 9; refine (HT.out _).mono ?_; rintro e w' ⟨rfl, rfl⟩))
        (try simp only [Exit.inBlock, Exit.then])
        exact do_fin HZ.out ((res_new w).drewN m1) rfl rfl ((HM.out.below HB0.out).drewN m1) (Alt.of_below (Below_drewN HB0.out m1)) rfl _ _ _ _ _ _ _ rfl rfl
      · have hz := hnn hl
        rw [hl] at HL
        have hz2 : ¬ Z = N := by simpa using hz
        clear hnn hl
        go_enter Try.func14, Try.ntmps14
        go_wp2_with (first
          | (go_at_call 7; refine (HF.out _).mono ?_; rintro e w' ⟨rfl, rfl⟩)
          | (go_at_call 18; refine (HL.out _ HB0.out).mono ?_; rintro e w1 ⟨rfl, m1, rfl⟩)
          | (go_at_call 9; refine (HT.out _).mono ?_; rintro e w' ⟨rfl, rfl⟩))
        (try simp only [Exit.inBlock, Exit.then])
        exact do_fin HZ.out ((res_new w).drewN m1) rfl rfl ((HM.out.below HB0.out).drewN m1) (Alt.of_below (Below_drewN HB0.out m1)) rfl _ _ _ _ _ _ _ rfl rfl
    · obtain ⟨e1, e2, e3⟩ := do_yes hD
      have hl : X.lkB r v = true ∧ X.lkE r v &&& btN k s = btN k s := by simpa [Rm.doB, hk] using hD
      rw [e1, e2, e3]
      rw [hl.2] at hnd
      have hmk := marks_any k
      have hus : X.us r v k < 4294967296 := or_lt _ _ hle (mk_lt k)
      have hor : bits .or .u32 ((X.lkE r v : Nat) : Int) ((mkN k : Nat) : Int) = ((X.us r v k : Nat) : Int) := u32_or_nat _ _ hle (by have := mk_lt k; omega)
      have h94 : bits .and .u32 ((X.us r v k : Nat) : Int) 94 = ((X.us r v k &&& 94 : Nat) : Int) := u32_and_nat _ 94 hus (by omega)
      have hnu := number_any (X.us r v k) hus
      have hq : ((v : Int)).tdiv 64 = ((v / 64 : Nat) : Int) := by rw [Int.tdiv_eq_ediv_of_nonneg (by omega)]; omega
      have hq1 : (0 : Int) ≤ ((v / 64 : Nat) : Int) := by omega
      have hq2 : ((v / 64 : Nat) : Int) < 4294967296 := by omega
      have hpw := fun W (hb : Below w.heap.size w W) => putWord_any (X.lkA r v) (by omega) ((X.us r v k : Nat) : Int) ⟨by omega, by omega⟩ W (hM.below hb)
      have hne : (((X.us r v k : Nat) : Int) == ((X.lkE r v : Nat) : Int)) = decide (X.us r v k = X.lkE r v) := by
        by_cases h : X.us r v k = X.lkE r v
        · rw [h]; simp
        · rw [decide_eq_false h]; simp; omega
      have hps : X.putS (X.lkA r v) (w4 ((X.us r v k : Nat) : Int)) = X.wr (X.lkA r v) (w4 ((X.us r v k : Nat) : Int)) := if_pos hla
      rw [hps] at hpw
      rw [hl.1] at hlk
      have HB0 := Lib.hid hb0
      have HL := Lib.hid hlk
      have HT := Lib.hid hbt
      have HK := Lib.hid hmk
      have HN := Lib.hid hnu
      have HP := Lib.hid hpw
      unfold Told at HL
      unfold Left at HP
      have HZ := Lib.hid hM0
      clear e1 e2 e3 hD hk hM hb0 hr hv hlk hbt hle hla hn hl hmk hus hnu hpw hps
      unfold enV trV
      generalize hY : X.wr (X.lkA r v) (w4 ((X.us r v k : Nat) : Int)) = Y at *
      clear hY
      generalize hU : X.us r v k = u at *
      generalize hE : X.lkE r v = l at *
      clear hU hE
      generalize ftV k = F at *
      by_cases hul : u = l
      · subst hul
        rw [if_neg (by simp)]
        rw [decide_eq_true rfl] at hne
        generalize ((u &&& 94 : Nat) : Int) = B at *
        generalize ((u / 256 : Nat) : Int) = Q at *
        generalize ((u : Nat) : Int) = U at *
        generalize ((X.lkA r v : Nat) : Int) = A at *
        generalize ((btN k s : Nat) : Int) = N at *
        generalize ((mkN k : Nat) : Int) = K at *
        generalize ((v / 64 : Nat) : Int) = VQ at *
        generalize (v : Int) = V at *
        generalize (r : Int) = R at *
        clear HP
        go_enter Try.func14, Try.ntmps14
        go_wp2_with (first
          | (go_at_call 7; refine (HF.out _).mono ?_; rintro e w' ⟨rfl, rfl⟩)
          | (go_at_call 18; refine (HL.out _ HB0.out).mono ?_; rintro e w1 ⟨rfl, m1, rfl⟩)
          | (go_at_call 9; refine (HT.out _).mono ?_; rintro e w' ⟨rfl, rfl⟩)
          | (go_at_call 31; refine (HK.out _).mono ?_; rintro e w' ⟨rfl, rfl⟩)
          | (go_at_call 33; refine (HN.out _).mono ?_; rintro e w' ⟨rfl, rfl⟩))
        (try simp only [Exit.inBlock, Exit.then])
        exact do_fin HZ.out ((res_new w).drewN m1) rfl rfl ((HM.out.below HB0.out).drewN m1) (Alt.of_below (Below_drewN HB0.out m1)) rfl _ _ _ _ _ _ _ rfl rfl
      · rw [if_pos hul]
        rw [decide_eq_false hul] at hne
        generalize ((u &&& 94 : Nat) : Int) = B at *
        generalize ((u / 256 : Nat) : Int) = Q at *
        generalize ((u : Nat) : Int) = U at *
        generalize ((l : Nat) : Int) = L at *
        generalize ((X.lkA r v : Nat) : Int) = A at *
        generalize ((btN k s : Nat) : Int) = N at *
        generalize ((mkN k : Nat) : Int) = K at *
        generalize ((v / 64 : Nat) : Int) = VQ at *
        generalize (v : Int) = V at *
        generalize (r : Int) = R at *
        have hne2 : ¬ U = L := by simpa using hne
        clear hul
        go_enter Try.func14, Try.ntmps14
        go_wp2_with (first
          | (go_at_call 7; refine (HF.out _).mono ?_; rintro e w' ⟨rfl, rfl⟩)
          | (go_at_call 18; refine (HL.out _ HB0.out).mono ?_; rintro e w1 ⟨rfl, m1, rfl⟩)
          | (go_at_call 9; refine (HT.out _).mono ?_; rintro e w' ⟨rfl, rfl⟩)
          | (go_at_call 31; refine (HK.out _).mono ?_; rintro e w' ⟨rfl, rfl⟩)
          | (go_at_call 32
             have hb1 := Below_drewN HB0.out m1
             refine (HP.out _ hb1).mono ?_
             rintro e w2 ⟨rfl, hm2, ha2⟩
             have z := HZ.out
             have HR := Lib.hid (((res_new w).drewN m1).alt ha2 ⟨by omega, by omega, by omega⟩ ⟨by omega, by omega, by omega⟩)
             have hc := HR.out.cel
             obtain ⟨c0, k0⟩ := hc.e0
             obtain ⟨c1, k1⟩ := hc.e1
             obtain ⟨c2, k2⟩ := hc.e2
             obtain ⟨c3, k3⟩ := hc.e3
             obtain ⟨c4, k4⟩ := hc.t0
             obtain ⟨c5, k5⟩ := hc.t1
             have f1 := hc.fe
             have f2 := hc.ft
             have HM2 := Lib.hid hm2
             have HA2 := Lib.hid ((Alt.of_below (p := p) hb1).trans ha2)
             clear hc hm2 ha2 z hb1 HP)
          | (go_at_call 33; refine (HN.out _).mono ?_; rintro e w' ⟨rfl, rfl⟩))
        (try simp only [Exit.inBlock, Exit.then])
        exact do_fin HZ.out HR.out rfl rfl HM2.out HA2.out rfl _ _ _ _ _ _ _ rfl rfl
end
end Go.Proofs.Ytoejpdhcibbgdaa

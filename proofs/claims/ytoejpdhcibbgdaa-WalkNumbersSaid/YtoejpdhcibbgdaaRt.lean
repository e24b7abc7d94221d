/-
  ram: Turned, Calm, New: A CONTRACT EACH.
-/
import Derived.Test.YtoejpdhcibbgdaaRr
import Derived.Lib.SliceRun
namespace Go.Proofs.Ytoejpdhcibbgdaa
open Go.RowKit
set_option linter.unusedSimpArgs false
set_option linter.unusedVariables false

/-- which pages have turned, of the first k -/
def tuL (F : Nat → Bool) (k : Nat) : List Nat := (List.range k).filter F
theorem tuL_succ (F : Nat → Bool) (k : Nat) : tuL F (k + 1) = tuL F k ++ (if F k = true then [k] else []) := by
  unfold tuL
  rw [List.range_succ, List.filter_append]
  cases h : F k <;> simp [h]
theorem tuL_le (F : Nat → Bool) (k : Nat) : (tuL F k).length ≤ k := by
  have := List.length_filter_le F (List.range k)
  simpa [tuL] using this
theorem tuL_congr {F G : Nat → Bool} {k : Nat} (h : ∀ j, j < k → F j = G j) : tuL F k = tuL G k := by
  unfold tuL
  exact List.filter_congr fun j hj => h j (List.mem_range.1 hj)
/-- a list of numbers in new memory -/
def NewL (L : List Nat) (w : World) (e : Ending) (w' : World) : Prop :=
  ∃ A c, e = .returned (.slice A L.length c) ∧ w'.ownsRow w.heap.size 3 1 (.slice A L.length c) L.length (nv L) ∧ Below w.heap.size w w'
section
variable {p : Bl} {X : Rm}
set_option maxRecDepth 100000 in
theorem turned_any (w : World) (hM : IsM w p X) :
    Calls Try.prog 29 #[.pointer (some ⟨p.m, 0, none⟩)] w (NewL (tuL X.tu X.n) w) := by
  have HM := Lib.hid hM
  have hc := hM.c2
  have hn1 := hM.n1
  unfold NewL
  generalize hN : X.n = N at *
  have HN := Lib.hid hN
  clear hM hN
  go_enter Try.func29, Try.ntmps29
  go_wp2_with fail
  go_loopw [3, 11] (fun v i wr => ∃ (k : Nat) (A : Option Addr) (c n : Nat), k ≤ N ∧ n ≤ 64 ∧ i = .int .i64 k ∧ v = .slice A n c ∧ Hid (n = (tuL X.tu k).length) ∧ Hid (wr.ownsRow w.heap.size 3 1 (.slice A n c) n (nv (tuL X.tu k))) ∧ Hid (Below w.heap.size w wr)) (fun _ i _ => N - (intOf i).toNat)
  case atStart => exact ⟨0, none, 0, 0, by omega, by omega, rfl, rfl, Lib.hid rfl, World.ownsRow_nil _ _ _ _, Below.refl _ _⟩
  case round =>
    obtain ⟨k, A, c, n, hk, hn, rfl, rfl, hNL, hO, hB⟩ := hrel
    have hz := hB.out.size
    by_cases hlt : k < N
    · have hM2 := HM.out.below hB.out
      have c1 := hM2.ut k (by rw [HN.out]; exact hlt)
      have hs := tuL_succ X.tu k
      have hle := tuL_le X.tu k
      have hki : (k : Int) < (N : Int) := by omega
      clear hM2
      cases hb : X.tu k
      · rw [hb] at hs c1
        simp only [Bool.false_eq_true, if_false, List.append_nil] at hs
        have HS := Lib.hid hs
        clear hs hb hle
        go_wp2
        go_roundw
        case rel => exact ⟨k + 1, A, c, n, by omega, hn, by go_num, rfl, by rw [HS.out]; exact hNL, by rw [HS.out]; exact hO, hB⟩
        case measure => simp [intOf]; omega
      · rw [hb] at hs c1
        simp only [if_true] at hs
        have HS := Lib.hid hs
        have HNN := Lib.hid (show n + 1 ≤ 64 by have := hNL.out; omega)
        clear hs hb hle
        have HO1 := Lib.hid (hO.out.alloc (.cells #[.int .i64 k] 3))
        go_wp2_with (at_builtin
                     refine wpList_app rfl (.tmp 17) (.tmp 19) _ rfl w.heap.size 3 _ 1 8 Try.underlying43 Try.info_int rfl (by omega) (.slice A n c) n (nv (tuL X.tu k)) rfl HO1.out wr.heap.size 1 1 _ _ _ rfl (heap_alloc_new wr (.cells #[.int .i64 k] 3)) rfl (by simp [Value.oneCell']) (by omega) (by unfold maxLen; omega) (by omega) (by simp; omega) ?_
                     intro g2 cap2 w2 hext2
                     have HX2 := Lib.hid hext2
                     clear hext2)
        go_roundw
        case rel =>
          refine ⟨k + 1, some ⟨g2, 0, none⟩, cap2, n + 1, by omega, HNN.out, by go_num, rfl, ?_, ?_, ?_⟩
          · rw [HS.out, List.length_append]; exact Lib.hid (by rw [hNL.out]; rfl)
          · apply Lib.hid
            have h := HX2.out.own
            rw [HS.out, nv_append]
            simpa [nv] using h
          · exact Lib.hid ((hB.out.alloc hz _).trans (HX2.out.below (by simp; omega) HO1.out))
        case measure => simp [intOf]; omega
    · obtain rfl : k = N := by omega
      clear hk hlt
      have hN' := hNL.out
      subst hN'
      go_wp2
      go_ret
      exact ⟨A, c, rfl, hO.out, hB.out⟩
/-- nothing has turned -/
def Rm.calm (X : Rm) : Rm := { X with tu := fun _ => false }
theorem Try.zero_bool (w : World) : (zeroValue 4).run Try.prog w = .ok (.bool false) w := by
  obtain ⟨i, hi, hzz⟩ := Option.map_eq_some_iff.1 Try.info_bool'
  simp only [Prod.mk.injEq] at hzz
  simp [zeroValue, typeInfo, hi, hzz.1]
theorem IsM.setUs {w : World} (x : IsM w p X) : IsM (w.setCells p.u 0 (List.replicate X.n (.bool false))) p X.calm := by
  obtain ⟨S, T, i⟩ := x.inn
  have hin : ∀ j, j < (List.replicate X.n (Value.bool false)).length → (w.cell? ⟨p.u, 0 + j, none⟩).isSome = true := fun j hj => by
    rw [List.length_replicate] at hj
    rw [Nat.zero_add, x.ut j hj]; rfl
  have far : ∀ g, g ≠ p.u → (w.setCells p.u 0 (List.replicate X.n (.bool false))).heap[g]? = w.heap[g]? := fun g hg => by
    have : ∀ (vs : List Value) (o : Nat) (w : World), (w.setCells p.u o vs).heap[g]? = w.heap[g]? := by
      intro vs
      induction vs with
      | nil => intro o w; rfl
      | cons v r ih => intro o w; rw [World.setCells, ih]; exact Below.heap_setCell w _ v g hg
    exact this _ _ _
  have outM : ∀ i, (w.setCells p.u 0 (List.replicate X.n (.bool false))).cell? ⟨p.m, i, none⟩ = w.cell? ⟨p.m, i, none⟩ := fun i => by
    simp only [World.cell?, far _ x.mu]
  refine ⟨⟨S, T, (i.keep (far _ x.gu) (far _ x.hu) (far _ x.ru)).tu _⟩, x.gm, x.hm, x.rm, x.gu, x.hu, x.ru, x.mu, by rw [size_setCells]; exact x.zm, by rw [size_setCells]; exact x.zu, (outM _).trans x.c0, (outM _).trans x.c1, (outM _).trans x.c2, fun j hj => ?_, fun j => by rw [World.frozen?_setCells]; exact x.uf j⟩
  have hj : j < X.n := hj
  have := World.cell?_setCells_in p.u (List.replicate X.n (Value.bool false)) 0 w hin j (by simpa using hj)
  rw [Nat.zero_add] at this
  rw [this]; simp [Rm.calm]
theorem Alt.setUs {w w' : World} : ∀ (vs : List Value) (o : Nat) {w' : World}, Alt p w w' → Alt p w (w'.setCells p.u o vs)
  | [], _, _, x => x
  | v :: r, o, _, x => by rw [World.setCells]; exact Alt.setUs (w' := w') r (o + 1) (x.setU o v)
set_option maxRecDepth 100000 in
theorem calm_any (w : World) (hM : IsM w p X) :
    Calls Try.prog 24 #[.pointer (some ⟨p.m, 0, none⟩)] w (Left p X.calm (.tuple #[]) w) := by
  have hc := hM.c2
  have hn := hM.n1
  have HM := Lib.hid hM
  have hcl : ∀ ty, (Builtin.clear_ #[64] ty #[.slice (some ⟨p.u, 0, none⟩) X.n X.n]).run Try.prog w = .ok (.tuple #[]) (w.setCells p.u 0 (List.replicate X.n (.bool false))) := fun ty =>
    Lib.run_clear_slice w _ _ ty _ Try.underlying64 Try.zero_bool rfl rfl p.u 0 X.n X.n (by omega) (fun j hj => by rw [Nat.zero_add, hM.ut j hj]; rfl) (fun j hj => hM.uf _)
  have HS := Lib.hid hM.setUs
  have HA := Lib.hid (Alt.setUs (p := p) (w' := w) (List.replicate X.n (.bool false)) 0 (Alt.refl p w))
  unfold Left
  clear hM
  generalize w.setCells p.u 0 (List.replicate X.n (.bool false)) = W at *
  go_enter Try.func24, Try.ntmps24
  go_wp2
  exact bodyPost_end (v := .tuple #[]) (by simp [results, Try.results24, go_sem]) rfl ⟨rfl, HS.out, HA.out⟩
theorem newM_nil (t : Option Addr) (w : World) :
    Calls Try.prog 22 #[.pointer none, .pointer t] w fun e w' => e = .returned (.tuple #[.pointer none, .int .i64 1]) ∧ w = w' := by
  go_enter Try.func22, Try.ntmps22
  go_wp2
  go_ret2
  exact ⟨rfl, rfl⟩
set_option maxRecDepth 100000 in
/-- New, of a pool and a table that are empty -/
theorem newM_any (g h r o n : Nat) (w : World) (ho : o < 4) (hn : n ≤ 64) (hp : IsP w g (po0.promS o n)) (ht : IsT w g h r (ta0 o n)) :
    Calls Try.prog 22 #[.pointer (some ⟨g, 0, none⟩), .pointer (some ⟨h, 0, none⟩)] w fun e w' =>
      ∃ m u, e = .returned (.tuple #[.pointer (some ⟨m, 0, none⟩), .int .i64 0]) ∧ w.heap.size ≤ m ∧ w.heap.size ≤ u ∧ IsM w' ⟨g, h, r, m, u⟩ (rm0 n) ∧ Below w.heap.size w w' := by
  have hpg := pages_any w ht
  have e : (ta0 o n).n = n := rfl
  rw [e] at hpg
  have HP := Lib.hid hpg
  have hmk := make_bool .i64 n (by omega) w
  have HNB := Lib.hid (new_bool n w)
  have HIP := Lib.hid hp
  have HIT := Lib.hid ht
  have HJ := Lib.hid (And.intro (joint_0 ok_0 o n ho hn (prom_0 o n ho hn)) (ok_prom ok_0 o n))
  generalize madeCells #[Value.bool false] n = Z at *
  clear hpg hp ht e
  go_enter Try.func22, Try.ntmps22
  go_wp2_with (go_at_call 40; refine HP.out.mono ?_; rintro e w' ⟨rfl, rfl⟩)
  go_ret2
  have hb : Below w.heap.size w ((w.alloc (.cells Z 4)).alloc (.cells #[.pointer (some ⟨g, 0, none⟩), .pointer (some ⟨h, 0, none⟩), .slice (some ⟨w.heap.size, 0, none⟩) n n] 95)) :=
    ((Below.refl _ _).alloc (Nat.le_refl _) _).alloc (by simp) _
  have hm := Blk.new (w.alloc (.cells Z 4)) 95 #[.pointer (some ⟨g, 0, none⟩), .pointer (some ⟨h, 0, none⟩), .slice (some ⟨w.heap.size, 0, none⟩) n n]
  have hs : (w.alloc (.cells Z 4)).heap.size = w.heap.size + 1 := by simp
  rw [hs] at hm
  have hu := IsC.after HNB.out ((Below.refl _ _).alloc (Nat.le_refl _) (.cells #[.pointer (some ⟨g, 0, none⟩), .pointer (some ⟨h, 0, none⟩), .slice (some ⟨w.heap.size, 0, none⟩) n n] 95))
  have zg := HIP.out.z
  have zh := HIT.out.zh
  have zr := HIT.out.zr
  refine ⟨w.heap.size + 1, w.heap.size, rfl, by omega, by omega, ⟨⟨po0.promS o n, ta0 o n, HIP.out.below hb, HIT.out.below hb, HJ.out.1, HJ.out.2, rfl, fun k hk => rfl, fun a ha => ?_⟩, ?_, ?_, ?_, ?_, ?_, ?_, ?_, hm.lt, hu.lt, hm.cell 0, hm.cell 1, hm.cell 2, fun k hk => hu.cell k hk, fun i => hu.frozen i⟩, hb⟩
  · show (0 : Int) = btV _ _ _
    unfold btV
    rfl
  all_goals
    simp only []
    omega
end
end Go.Proofs.Ytoejpdhcibbgdaa

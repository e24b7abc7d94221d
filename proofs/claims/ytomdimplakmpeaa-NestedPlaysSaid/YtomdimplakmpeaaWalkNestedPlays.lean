/-
  innkeeperlaw6.NestedPlays returns true: its walk.
-/
import Derived.Test.YtomdimplakmpeaaWalkNestedBack
import Derived.Test.YtomdimplakmpeaaWalkNestedGuards
import Derived.Test.YtomdimplakmpeaaTl
import Derived.Test.YtomdimplakmpeaaWi1
import Derived.Deep.CutBlock
import Derived.Deep.OwnRows
namespace Go.Proofs.Ytomdimplakmpeaa
open Go.RowKit
set_option linter.unusedSimpArgs false
set_option linter.unusedVariables false

theorem Try.info_bool : (Try.prog.info? 4).map (fun i => (i.zero, i.size, i.bytes)) = some (some (.bool false), 1, 1) := by kernel_rfl
/-- the law's rows while they are filled: -1 below k, 0 from there on; nothing is guarded -/
structure Fill (w : World) (ab gb n k : Nat) : Prop where
  za : ab < w.heap.size
  zg : gb < w.heap.size
  at_ : ∀ j, j < n → w.cell? ⟨ab, j, none⟩ = some (.int .i64 (if j < k then -1 else 0))
  gd : ∀ j, j < n → w.cell? ⟨gb, j, none⟩ = some (.bool false)
  fa : ∀ i, w.frozen? ⟨ab, i, none⟩ = false
  fg : ∀ i, w.frozen? ⟨gb, i, none⟩ = false
theorem made_one (v : Value) (n j : Nat) (h : j < n) : (madeCells #[v] n)[j]? = some v := by
  rw [← Array.getElem?_toList, toList_madeCells_one, List.getElem?_replicate, if_pos h]
theorem Fill.new (w : World) (n : Nat) : Fill ((w.alloc (.cells (madeCells #[.int .i64 0] n) 3)).alloc (.cells (madeCells #[.bool false] n) 4)) w.heap.size (w.heap.size + 1) n 0 := by
  have h2 := Blk.new (w.alloc (.cells (madeCells #[.int .i64 0] n) 3)) 4 (madeCells #[.bool false] n)
  have hs : (w.alloc (.cells (madeCells #[.int .i64 0] n) 3)).heap.size = w.heap.size + 1 := by simp
  rw [hs] at h2
  have h1 := (Blk.new w 3 (madeCells #[.int .i64 0] n)).alloc (.cells (madeCells #[.bool false] n) 4)
  exact ⟨h1.lt, h2.lt, fun j hj => by rw [h1.cell, made_one _ _ _ hj]; rfl, fun j hj => by rw [h2.cell, made_one _ _ _ hj], h1.frozen, h2.frozen⟩
theorem Fill.set {w : World} {ab gb n k : Nat} (f : Fill w ab gb n k) (hab : ab ≠ gb) (hk : k < n) : Fill (w.setCell ⟨ab, k, none⟩ (.int .i64 (-1))) ab gb n (k + 1) := by
  refine ⟨by simpa using f.za, by simpa using f.zg, fun j hj => ?_, fun j hj => ?_, fun i => by rw [World.frozen?_setCell]; exact f.fa i, fun i => by rw [World.frozen?_setCell]; exact f.fg i⟩
  · by_cases e : j = k
    · subst e; rw [World.cell?_setCell_same _ _ _ (f.at_ j hj), if_pos (by omega)]
    · rw [World.cell?_setCell_other _ _ _ _ (by simp <;> omega), f.at_ j hj]
      by_cases h : j < k
      · rw [if_pos h, if_pos (by omega)]
      · rw [if_neg h, if_neg (by omega)]
  · rw [World.cell?_setCell_other _ _ _ _ (by simp <;> omega)]; exact f.gd j hj
theorem Fill.tabs {w : World} {ab gb n : Nat} (f : Fill w ab gb n n) (o : Nat) : Tabs w ab gb (ta0 o n) :=
  ⟨f.za, f.zg, fun k hk => by rw [f.at_ k hk, if_pos (show k < n from hk)]; rfl, f.gd, f.fa, f.fg⟩
section
variable {w0 w : World} {B g h r o n ab gb : Nat} {S : Po} {T : Ta}
/-- new memory is turned -/
theorem Duo.set (d : Duo w0 B g h r o n w S T) (q : Addr) (v : Value) (hq : B ≤ q.block) (hg : g ≠ q.block) (e1 : h ≠ q.block) (e2 : r ≠ q.block) : Duo w0 B g h r o n (w.setCell q v) S T :=
  ⟨d.p.keep (Below.heap_setCell _ _ _ _ hg), d.t.keep (Below.heap_setCell _ _ _ _ e1) (Below.heap_setCell _ _ _ _ e2), d.j, d.k, d.o, d.n, d.b.setCell hq _, d.bg, d.bh, d.br⟩
theorem Tabs.setA {f : Int} (x : Tabs w ab gb T) (hab : ab ≠ gb) (k : Nat) (hk : k < T.n) (hg : T.gd k = false) : Tabs (w.setCell ⟨ab, k, none⟩ (.int .i64 f)) ab gb (T.put k f) := by
  refine ⟨by simpa using x.za, by simpa using x.zg, fun j hj => ?_, fun j hj => ?_, fun i => by rw [World.frozen?_setCell]; exact x.fa i, fun i => by rw [World.frozen?_setCell]; exact x.fg i⟩
  · show _ = some (Value.int .i64 (upd T.fr k f j))
    by_cases e : j = k
    · subst e; rw [World.cell?_setCell_same _ _ _ (x.at_ j hj), upd_same]
    · rw [World.cell?_setCell_other _ _ _ _ (by simp <;> omega), upd_other _ _ _ _ e]; exact x.at_ j hj
  · show _ = some (Value.bool (upd T.gd k false j))
    rw [World.cell?_setCell_other _ _ _ _ (by simp <;> omega)]
    by_cases e : j = k
    · subst e; rw [upd_same, ← hg]; exact x.gd j hj
    · rw [upd_other _ _ _ _ e]; exact x.gd j hj
theorem Tabs.setSame (x : Tabs w ab gb T) (hab : ab ≠ gb) (k : Nat) (hk : k < T.n) : Tabs (w.setCell ⟨ab, k, none⟩ (.int .i64 (T.fr k))) ab gb T := by
  refine ⟨by simpa using x.za, by simpa using x.zg, fun j hj => ?_, fun j hj => ?_, fun i => by rw [World.frozen?_setCell]; exact x.fa i, fun i => by rw [World.frozen?_setCell]; exact x.fg i⟩
  · by_cases e : j = k
    · subst e; rw [World.cell?_setCell_same _ _ _ (x.at_ j hj)]
    · rw [World.cell?_setCell_other _ _ _ _ (by simp <;> omega)]; exact x.at_ j hj
  · rw [World.cell?_setCell_other _ _ _ _ (by simp <;> omega)]; exact x.gd j hj
theorem Tabs.setG {b : Bool} (x : Tabs w ab gb T) (hab : ab ≠ gb) (k : Nat) (hk : k < T.n) : Tabs (w.setCell ⟨gb, k, none⟩ (.bool b)) ab gb (T.mark k b) := by
  refine ⟨by simpa using x.za, by simpa using x.zg, fun j hj => ?_, fun j hj => ?_, fun i => by rw [World.frozen?_setCell]; exact x.fa i, fun i => by rw [World.frozen?_setCell]; exact x.fg i⟩
  · rw [World.cell?_setCell_other _ _ _ _ (by simp <;> omega)]; exact x.at_ j hj
  · show _ = some (Value.bool (upd T.gd k b j))
    by_cases e : j = k
    · subst e; rw [World.cell?_setCell_same _ _ _ (x.gd j hj), upd_same]
    · rw [World.cell?_setCell_other _ _ _ _ (by simp <;> omega), upd_other _ _ _ _ e]; exact x.gd j hj
/-- both rows: a page is unmapped -/
theorem Tabs.unset (x : Tabs w ab gb T) (hab : ab ≠ gb) (k : Nat) (hk : k < T.n) : Tabs ((w.setCell ⟨ab, k, none⟩ (.int .i64 (-1))).setCell ⟨gb, k, none⟩ (.bool false)) ab gb (T.put k (-1)) := by
  refine ⟨by simpa using x.za, by simpa using x.zg, fun j hj => ?_, fun j hj => ?_, fun i => by rw [World.frozen?_setCell, World.frozen?_setCell]; exact x.fa i, fun i => by rw [World.frozen?_setCell, World.frozen?_setCell]; exact x.fg i⟩
  · show _ = some (Value.int .i64 (upd T.fr k (-1) j))
    rw [World.cell?_setCell_other _ _ _ _ (by simp <;> omega)]
    by_cases e : j = k
    · subst e; rw [World.cell?_setCell_same _ _ _ (x.at_ j hj), upd_same]
    · rw [World.cell?_setCell_other _ _ _ _ (by simp <;> omega), upd_other _ _ _ _ e]; exact x.at_ j hj
  · show _ = some (Value.bool (upd T.gd k false j))
    by_cases e : j = k
    · subst e; rw [World.cell?_setCell_same _ _ _ (by rw [World.cell?_setCell_other _ _ _ _ (by simp <;> omega)]; exact x.gd j hj), upd_same]
    · rw [World.cell?_setCell_other _ _ _ _ (by simp <;> omega), World.cell?_setCell_other _ _ _ _ (by simp <;> omega), upd_other _ _ _ _ e]; exact x.gd j hj
/-- the rows of another table that reads alike -/
theorem Tabs.congr {T' : Ta} (x : Tabs w ab gb T) (hn : T'.n = T.n) (h1 : ∀ j, j < T.n → T'.fr j = T.fr j) (h2 : ∀ j, j < T.n → T'.gd j = T.gd j) : Tabs w ab gb T' :=
  ⟨x.za, x.zg, fun j hj => by rw [h1 j (by omega)]; exact x.at_ j (by omega), fun j hj => by rw [h2 j (by omega)]; exact x.gd j (by omega), x.fa, x.fg⟩
/-- the law's rows are apart from the pool and the table -/
structure Nx (B g h r ab gb : Nat) : Prop where
  a1 : ab ≠ g
  a2 : ab ≠ h
  a3 : ab ≠ r
  b1 : gb ≠ g
  b2 : gb ≠ h
  b3 : gb ≠ r
  c : ab ≠ gb
  ba : B ≤ ab
  bb : B ≤ gb
theorem Tabs.turn {a b : Nat} {w' : World} (x : Tabs w ab gb T) (t : Turn a b w w') (h1 : ab ≠ a) (h2 : ab ≠ b) (h3 : gb ≠ a) (h4 : gb ≠ b) : Tabs w' ab gb T := x.keep (t.block ab x.za h1 h2) (t.block gb x.zg h3 h4)
/-- the law's state: the pool, the table, its two rows -/
structure Quad (w0 : World) (B g h r o n ab gb : Nat) (w : World) (S : Po) (T T' : Ta) : Prop where
  d : Duo w0 B g h r o n w S T
  x : Tabs w ab gb T'
theorem Quad.keep {T' : Ta} {w' : World} (q : Quad w0 B g h r o n ab gb w S T T') (hB : w0.heap.size = B) (hb : Below w.heap.size w w') : Quad w0 B g h r o n ab gb w' S T T' := ⟨q.d.keep hB hb, q.x.below hb⟩
theorem Duo.mapT (d : Duo w0 B g h r o n w S T) (hB : w0.heap.size = B) (hX : Nx B g h r ab gb) (x : Tabs w ab gb T) (k : Int) {w' : World} (hp : IsP w' g (mapS S T k)) (ht : IsT w' g h r (Go.Proofs.Ytomdimplakmpeaa.mapT S T k)) (hu : Turn g r w w') (hj : Joint (mapS S T k) (Go.Proofs.Ytomdimplakmpeaa.mapT S T k)) (hk : (mapS S T k).Ok) : Quad w0 B g h r o n ab gb w' (mapS S T k) (Go.Proofs.Ytomdimplakmpeaa.mapT S T k) T :=
  ⟨⟨hp, ht, hj, hk, (mapT_n S T k).2.trans d.o, (mapT_n S T k).1.trans d.n, hu.below d.bg d.br d.b (d.size hB), d.bg, d.bh, d.br⟩, x.turn hu hX.a1 hX.a3 hX.b1 hX.b3⟩
theorem map1 (d : Duo w0 B g h r o n w S T) (hB : w0.heap.size = B) (hX : Nx B g h r ab gb) (x : Tabs w ab gb T) (k : Int) (h0 : T.pB k = false) :
    Calls Try.prog 10 #[.pointer (some ⟨h, 0, none⟩), .int .i64 k] w fun e w' => e = .returned (.tuple #[.int .i64 0, .int .i64 22]) ∧ Quad w0 B g h r o n ab gb w' S T T := by
  obtain ⟨e1, e2, e3, e4⟩ := map_no (S := S) h0
  refine (map_any k w d.p d.t).mono ?_
  rintro e w' ⟨rfl, hp, ht, hu⟩
  have := d.mapT hB hX x k hp ht hu (by rw [e3, e4]; exact d.j) (by rw [e3]; exact d.k)
  rw [e3, e4] at this
  exact ⟨by rw [e1, e2], this⟩
theorem map2 (d : Duo w0 B g h r o n w S T) (hB : w0.heap.size = B) (hX : Nx B g h r ab gb) (x : Tabs w ab gb T) (q : Nat) (hq : q < n) (h0 : 0 ≤ T.fr q) :
    Calls Try.prog 10 #[.pointer (some ⟨h, 0, none⟩), .int .i64 q] w fun e w' => e = .returned (.tuple #[.int .i64 (T.fr q), .int .i64 0]) ∧ Quad w0 B g h r o n ab gb w' S T T := by
  obtain ⟨e1, e2, e3, e4⟩ := map_old (S := S) q (by rw [d.n]; exact hq) h0
  refine (map_any (q : Int) w d.p d.t).mono ?_
  rintro e w' ⟨rfl, hp, ht, hu⟩
  have := d.mapT hB hX x q hp ht hu (by rw [e3, e4]; exact d.j) (by rw [e3]; exact d.k)
  rw [e3, e4] at this
  exact ⟨by rw [e1, e2], this⟩
theorem map3 (d : Duo w0 B g h r o n w S T) (hB : w0.heap.size = B) (hX : Nx B g h r ab gb) (x : Tabs w ab gb T) (q : Nat) (hq : q < n) (h0 : neB (T.fr q) = false) :
    Calls Try.prog 10 #[.pointer (some ⟨h, 0, none⟩), .int .i64 q] w fun e w' => ∃ f : Nat, e = .returned (.tuple #[.int .i64 (f : Int), .int .i64 0]) ∧ f < 256 ∧ Quad w0 B g h r o n ab gb w' (S.tk f o) (T.put q f) T := by
  obtain ⟨e1, f, e2, e3, e4, l1, l2, l3, _, hj⟩ := map_new d.j d.p.good d.k d.t.good q (by rw [d.n]; exact hq) h0
  obtain ⟨_, _, _, _, _, _, _, _, _, _, hk⟩ := map_ok d.j d.p.good d.k d.t.good q (by rw [d.n]; exact hq)
  refine (map_any (q : Int) w d.p d.t).mono ?_
  rintro e w' ⟨rfl, hp, ht, hu⟩
  have := d.mapT hB hX x q hp ht hu (by rw [e3, e4]; exact hj) hk
  rw [e3, e4, d.o] at this
  exact ⟨f, by rw [e1, e2], l2, this⟩
theorem un1 (d : Duo w0 B g h r o n w S T) (hB : w0.heap.size = B) (hX : Nx B g h r ab gb) (x : Tabs w ab gb T) (k : Int) (h0 : T.mB k = false) :
    Calls Try.prog 11 #[.pointer (some ⟨h, 0, none⟩), .int .i64 k] w fun e w' => e = .returned (.int .i64 22) ∧ Quad w0 B g h r o n ab gb w' S T T := by
  obtain ⟨e1, e2, e3⟩ := un_no (S := S) h0
  refine (unmap_any k w d.p d.t).mono ?_
  rintro e w' ⟨rfl, hp, ht, hu⟩
  rw [e2] at hp
  rw [e3] at ht
  exact ⟨by rw [e1], ⟨hp, ht, d.j, d.k, d.o, d.n, hu.below d.bg d.br d.b (d.size hB), d.bg, d.bh, d.br⟩, x.turn hu hX.a1 hX.a3 hX.b1 hX.b3⟩
theorem un2 (d : Duo w0 B g h r o n w S T) (hB : w0.heap.size = B) (hX : Nx B g h r ab gb) (x : Tabs w ab gb T) (q : Nat) (hq : q < n) (h0 : 0 ≤ T.fr q) :
    Calls Try.prog 11 #[.pointer (some ⟨h, 0, none⟩), .int .i64 q] w fun e w' => e = .returned (.int .i64 0) ∧ ∃ f : Nat, T.fr q = f ∧ f < 256 ∧ Quad w0 B g h r o n ab gb w' (S.rel1 f) (T.put q (-1)) T := by
  obtain ⟨e1, f, e2, l1, l2, l3, e3, e4, hj, hk⟩ := un_ok d.j d.k d.t.good q (by rw [d.n]; exact hq) h0
  refine (unmap_any (q : Int) w d.p d.t).mono ?_
  rintro e w' ⟨rfl, hp, ht, hu⟩
  rw [e3] at hp
  rw [e4] at ht
  exact ⟨by rw [e1], f, e2, l2, ⟨hp, ht, hj, hk, d.o, d.n, hu.below d.bg d.br d.b (d.size hB), d.bg, d.bh, d.br⟩, x.turn hu hX.a1 hX.a3 hX.b1 hX.b3⟩
theorem Quad.marked {T' : Ta} (d : Quad w0 B g h r o n ab gb w S T T') (hB : w0.heap.size = B) (hX : Nx B g h r ab gb) (k : Int) (b : Bool) {e : Ending} {w' : World} (hm : Marked T g h r k b w e w') : e = .returned (.bool (T.mB k)) ∧ Quad w0 B g h r o n ab gb w' S (T.markS k b) T' := by
  obtain ⟨rfl, ht, hu⟩ := hm
  have hj : Joint S (T.markS k b) := by
    unfold Ta.markS; split
    · exact d.d.j.mark _ _
    · exact d.d.j
  exact ⟨rfl, ⟨d.d.p.keep (hu.block g d.d.p.z d.d.t.gr d.d.t.gr), ht, hj, d.d.k, (markS_n T k b).2.trans d.d.o, (markS_n T k b).1.trans d.d.n, hu.below d.d.br d.d.br d.d.b (d.d.size hB), d.d.bg, d.d.bh, d.d.br⟩, d.x.turn hu hX.a3 hX.a3 hX.b3 hX.b3⟩
end
set_option maxRecDepth 100000 in
set_option maxHeartbeats 4000000 in
theorem nestedPlays_walk (a0 a1 : Int) (A2 : Option Addr) (len2 cap2 : Nat) (L2 : List Ak) (w : World) (w0 : (Lit.int .i64 a0).wf = true) (w1 : (Lit.int .i64 a1).wf = true) (w2 : RowA w A2 len2 cap2 L2) :
    Calls Try.prog 4 #[.int .i64 a0, .int .i64 a1, .slice A2 len2 cap2] w fun e w' => e = .returned (.bool true) ∧ Below w.heap.size w w' := by
  obtain ⟨hlen, hl0, hc0, hA0, hrd, hin⟩ := w2
  have HRD := Lib.hid hrd
  have HIN := Lib.hid hin
  have HLEN := Lib.hid hlen
  unfold maxLen at hc0
  obtain ⟨b0, b1⟩ := i64_of_wf w0
  obtain ⟨b2, b3⟩ := i64_of_wf w1
  have hwo := within_book a0 3 b0 b1 (by omega) (by omega)
  have hwn := within_one a1 64 b2 b3 (by omega) (by omega)
  obtain ⟨y0, y1⟩ := wdV_bd a0 0 3 (by omega)
  obtain ⟨y2, y3⟩ := wdV_bd a1 1 64 (by omega)
  generalize wdV a0 0 3 = vo at *
  generalize wdV a1 1 64 = vn at *
  obtain ⟨o, rfl⟩ := Int.eq_ofNat_of_zero_le y0
  obtain ⟨n, rfl⟩ := Int.eq_ofNat_of_zero_le (show 0 ≤ vn by omega)
  have ho4 : o < 4 := by omega
  have hn1 : 1 ≤ n := by omega
  have hn64 : n ≤ 64 := by omega
  have HWO := Lib.hid hwo
  have HWN := Lib.hid hwn
  clear hrd hin hA0 hlen w0 w1 b0 b1 b2 b3 y0 y1 y2 y3 hwo hwn
  have hmk1 := fun W => run_make_row' (P := Try.prog) 32 3 (.int .i64 0) 8 Try.underlying32 Try.info_int rfl .i64 .i64 n (by omega) (by omega) W
  have hmk2 := fun W => run_make_row' (P := Try.prog) 40 4 (.bool false) 1 Try.underlying40 Try.info_bool rfl .i64 .i64 n (by omega) (by omega) W
  have HFN := Lib.hid (fun W => Fill.new W n)
  generalize madeCells #[Value.int .i64 0] n = Z1 at *
  generalize madeCells #[Value.bool false] n = Z2 at *
  go_enter Try.func4, Try.ntmps4
  go_wp2_with (first
    | (go_at_call 16; refine (HWO.out _).mono ?_; rintro e w' ⟨rfl, rfl⟩; clear HWO)
    | (go_at_call 16; refine (HWN.out _).mono ?_; rintro e w' ⟨rfl, rfl⟩; clear HWN)
    | (go_at_call 17; refine (fresh_any o n ho4 hn1 hn64 _).mono ?_; rintro e w1 ⟨g, h, r, rfl, hg, hh, hr, hp1, hT1, hb1⟩
       have HD := Lib.hid (duo_0 ho4 hn64 hg hh hr hp1 hT1 hb1)
       have HZ := Lib.hid (And.intro hp1.z (And.intro hT1.zh hT1.zr))
       clear hp1 hT1 hb1 hg hh hr))
  clear hmk1 hmk2
  generalize hG : w.heap.size = B at *
  have HB := Lib.hid hG
  have HF0 := Lib.hid (HFN.out w1)
  have HD0 := Lib.hid (HD.out.keep HB.out (((Below.refl _ _).alloc (Nat.le_refl _) (.cells Z1 3)).alloc (by simp) (.cells Z2 4)))
  have HX := Lib.hid (show Nx B g h r w1.heap.size (w1.heap.size + 1) from by
    have h1 := HZ.out.1
    have h2 := HZ.out.2.1
    have h3 := HZ.out.2.2
    have h4 := HD.out.size HB.out
    exact ⟨by omega, by omega, by omega, by omega, by omega, by omega, by omega, by omega, by omega⟩)
  clear HFN HZ HD hG
  generalize (w1.alloc (.cells Z1 3)).alloc (.cells Z2 4) = W1 at *
  generalize w1.heap.size + 1 = gb at *
  generalize w1.heap.size = ab at *
  go_loopw [13] (fun i wr => ∃ k : Nat, k ≤ n ∧ i = .int .i64 k ∧ Hid (Duo w B g h r o n wr (po0.promS o n) (ta0 o n)) ∧ Hid (Fill wr ab gb n k)) (fun i _ => n - (intOf i).toNat)
  case atStart => exact ⟨0, by omega, rfl, HD0, HF0⟩
  case round =>
    clear HD0 HF0
    obtain ⟨k, hk, rfl, hD, hF⟩ := hrel
    by_cases hlt : k < n
    · have hc := hF.out.at_ k hlt
      rw [if_neg (by omega)] at hc
      have hf := hF.out.fa k
      have hki : (k : Int) < (n : Int) := by omega
      go_wp2
      go_roundw
      case rel => exact ⟨k + 1, by omega, by go_num, Lib.hid (hD.out.set _ _ HX.out.ba HX.out.a1.symm HX.out.a2.symm HX.out.a3.symm), Lib.hid (hF.out.set HX.out.c hlt)⟩
      case measure => simp [intOf]; omega
    · have hkn : k = n := by omega
      have HQ0 := Lib.hid (show Quad w B g h r o n ab gb wr (po0.promS o n) (ta0 o n) (ta0 o n) from ⟨hD.out, by have := hF.out; rw [hkn] at this; exact this.tabs o⟩)
      have hex0 : (n : Int) ≤ (k : Int) := by omega
      have hex : decide (k < n) = false := by simp; omega
      clear hk hkn hD hF
      go_wp2_with fail
      generalize hbb : decide (k < n) = bb at *
      clear hbb hex hex0 hlt
      go_loopw [14] (fun i wr => ∃ (k : Nat) (S : Po) (T : Ta), k ≤ 60 ∧ k ≤ len2 ∧ i = .int .i64 k ∧ Hid (Quad w B g h r o n ab gb wr S T T)) (fun i _ => 60 - (intOf i).toNat)
      case atStart => exact ⟨0, _, _, by omega, by omega, rfl, HQ0⟩
      case round =>
        clear HQ0
        obtain ⟨k, S, T, hk, hkn, rfl, hQ⟩ := hrel
        by_cases hlt : k < len2 ∧ k < 60
        · obtain ⟨h1, h2⟩ := hlt
          have hkl : k < L2.length := by have := HLEN.out; omega
          obtain ⟨b, off, rfl, hbg, hc⟩ := HRD.out (by omega)
          obtain ⟨hca, hcb⟩ := hc k hkl
          have hbB : b < B := by have := HB.out; omega
          have hck := (hQ.out.d.b.cell (p := ⟨b, off + k * 2, none⟩) hbB).trans hca
          have hcp := (hQ.out.d.b.cell (p := ⟨b, off + k * 2 + 1, none⟩) hbB).trans hcb
          obtain ⟨b0, b1⟩ := i64_of_wf (HIN.out _ (List.getElem_mem hkl)).p
          generalize (L2[k]).p = pg at *
          generalize (L2[k]).k = kd at *
          have hle1 : (k : Int) < (len2 : Int) := by omega
          have hle2 : (k : Int) < 60 := by omega
          have HCA := Lib.hid hca
          have HBB := Lib.hid hbB
          have hNn := hQ.out.d.n
          clear hc hcb hkl hbg hbB hca
          have hcases : (pg < 0) ∨ ((n : Int) ≤ pg) ∨ (∃ q : Nat, pg = q ∧ q < n ∧ 0 ≤ T.fr q) ∨ (∃ q : Nat, pg = q ∧ q < n ∧ neB (T.fr q) = false) := by
            by_cases c1 : pg < 0
            · exact .inl c1
            · by_cases c2 : (n : Int) ≤ pg
              · exact .inr (.inl c2)
              · obtain ⟨q, rfl⟩ := Int.eq_ofNat_of_zero_le (show 0 ≤ pg by omega)
                cases hb : neB (T.fr q)
                · exact .inr (.inr (.inr ⟨q, rfl, by omega, hb⟩))
                · exact .inr (.inr (.inl ⟨q, rfl, by omega, by simpa [neB] using hb⟩))
          rcases hcases with hpg | hpg | ⟨q, rfl, hqn, hfq⟩ | ⟨q, rfl, hqn, hfq⟩
          · as_aux_lemma =>
              have hpB : T.pB pg = false := by unfold Ta.pB; simp; omega
              have hmB : T.mB pg = false := by unfold Ta.mB; rw [hpB, Bool.false_and]
              have HMP := Lib.hid (map1 hQ.out.d HB.out HX.out hQ.out.x pg hpB)
              have HUN := Lib.hid (un1 hQ.out.d HB.out HX.out hQ.out.x pg hmB)
              have HMB := Lib.hid hmB
              have hin1 : decide (pg ≥ 0) = false := by simp; omega
              clear hpB hmB hpg
              go_upto_block 4 with fail
              go_cut [18, 19, 20, 21, 22, 23, 24, 25] from 92 to 206 (fun s18 s19 s20 s21 s22 s23 s24 s25 wx => ∃ (S' : Po) (T' : Ta), Hid (Quad w B g h r o n ab gb wx S' T' T'))
              case first =>
                by_cases k1 : kd = 1
                · subst k1
                  go_wp2_with (go_at_call 10; refine HMP.out.mono ?_; rintro e w2 ⟨rfl, hq2⟩; have HQ2 := Lib.hid hq2; clear hq2 HMP)
                  go_meet
                  case rel => exact ⟨_, _, HQ2⟩
                have k1b : (kd == 1) = false := by simpa using k1
                by_cases k2 : kd = 2
                · subst k2
                  go_wp2_with (go_at_call 11; refine HUN.out.mono ?_; rintro e w2 ⟨rfl, hq2⟩; have HQ2 := Lib.hid hq2; clear hq2 HUN)
                  go_meet
                  case rel => exact ⟨_, _, HQ2⟩
                have k2b : (kd == 2) = false := by simpa using k2
                by_cases k3 : kd = 3
                · subst k3
                  have HGD := Lib.hid (guard_any (pg : Int) _ hQ.out.d.t)
                  go_wp2_with (go_at_call 19; refine HGD.out.mono ?_; intro e w2 hmd; obtain ⟨rfl, hq2⟩ := hQ.out.marked HB.out HX.out (pg : Int) true hmd
                               rw [HMB.out]
                               have e1 : T.markS (pg : Int) true = T := by unfold Ta.markS; rw [HMB.out]; rfl
                               rw [e1] at hq2
                               have d1 := (hq2.d.b.cell (p := ⟨b, off + k * 2, none⟩) HBB.out).trans HCA.out
                               have HQ2 := Lib.hid hq2
                               clear hmd e1 hq2 HGD)
                  go_meet
                  case rel => exact ⟨_, _, HQ2⟩
                have k3b : (kd == 3) = false := by simpa using k3
                by_cases k4 : kd = 4
                · subst k4
                  have HGD := Lib.hid (guard_any (pg : Int) _ hQ.out.d.t)
                  go_wp2_with (first
                    | (go_at_call 19; refine HGD.out.mono ?_; intro e w2 hmd; obtain ⟨rfl, hq2⟩ := hQ.out.marked HB.out HX.out (pg : Int) true hmd
                       rw [HMB.out]
                       have e1 : T.markS (pg : Int) true = T := by unfold Ta.markS; rw [HMB.out]; rfl
                       rw [e1] at hq2
                       have d1 := (hq2.d.b.cell (p := ⟨b, off + k * 2, none⟩) HBB.out).trans HCA.out
                       have HQ2 := Lib.hid hq2
                       have HGU := Lib.hid (unguard_any (pg : Int) _ hq2.d.t)
                       clear hmd e1 hq2 HGD)
                    | (go_at_call 20; refine HGU.out.mono ?_; intro e w3 hmd; obtain ⟨rfl, hq3⟩ := HQ2.out.marked HB.out HX.out (pg : Int) false hmd
                       rw [HMB.out]
                       have e1 : T.markS (pg : Int) false = T := by unfold Ta.markS; rw [HMB.out]; rfl
                       rw [e1] at hq3
                       have HQ3 := Lib.hid hq3
                       clear hmd e1 hq3 HGU))
                  go_meet
                  case rel => exact ⟨_, _, HQ3⟩
                have k4b : (kd == 4) = false := by simpa using k4
                go_wp2
                go_meet
                case rel => exact ⟨_, _, hQ⟩
              case rest =>
                clear HMP HUN HMB hQ hin1 hck hcp
                obtain ⟨S', T', hQ2⟩ := hcut
                have htl := tells_any _ hQ2.out.d.t hQ2.out.x
                rw [hQ2.out.d.n] at htl
                have hcnt := hQ2.out.d.j.cnt
                rw [hQ2.out.d.o, hQ2.out.d.n] at hcnt
                have hh1 := fun (W : World) (hb : Below wc.heap.size wc W) => held_any (o : Int) W (hQ2.out.d.p.below hb)
                have hm1 := fun (W : World) (hb : Below wc.heap.size wc W) => mapped_any W (hQ2.out.d.t.below hb)
                unfold Held at hh1
                unfold Mapd at hm1
                rw [hQ2.out.d.n] at hm1
                rw [hcnt] at hh1
                have hml := mapL_le T' n
                generalize (T'.mapL n).length = M at *
                have HTL := Lib.hid htl
                have HH1 := Lib.hid hh1
                have HM1 := Lib.hid hm1
                clear htl hh1 hm1 hcnt
                go_wp2_with (first
                  | (go_at_call 21; refine HTL.out.mono ?_; rintro e w2 ⟨rfl, hb2⟩; have HB2 := Lib.hid hb2; clear hb2 HTL)
                  | (go_at_call 22; refine (HH1.out _ HB2.out).mono ?_; rintro e w3 ⟨A3, c3, rfl, _, hb3⟩; have HB3 := Lib.hid (HB2.out.trans (hb3.mono HB2.out.size)); clear hb3)
                  | (go_at_call 13; refine (HM1.out _ HB3.out).mono ?_; rintro e w4 ⟨A4, c4, rfl, _, hb4⟩; have HB4 := Lib.hid (HB3.out.trans (hb4.mono HB3.out.size)); clear hb4))
                go_roundw
                case rel => exact ⟨k + 1, S', T', by omega, by omega, by go_num, Lib.hid (hQ2.out.keep HB.out HB4.out)⟩
                case measure => simp [intOf]; omega
          · as_aux_lemma =>
              have hpB : T.pB pg = false := by unfold Ta.pB; simp; omega
              have hmB : T.mB pg = false := by unfold Ta.mB; rw [hpB, Bool.false_and]
              have HMP := Lib.hid (map1 hQ.out.d HB.out HX.out hQ.out.x pg hpB)
              have HUN := Lib.hid (un1 hQ.out.d HB.out HX.out hQ.out.x pg hmB)
              have HMB := Lib.hid hmB
              have hin1 : pg ≥ 0 := by omega
              have hin2 : decide (pg < (n : Int)) = false := by simp; omega
              clear hpB hmB hpg
              go_upto_block 4 with fail
              go_cut [18, 19, 20, 21, 22, 23, 24, 25] from 92 to 206 (fun s18 s19 s20 s21 s22 s23 s24 s25 wx => ∃ (S' : Po) (T' : Ta), Hid (Quad w B g h r o n ab gb wx S' T' T'))
              case first =>
                by_cases k1 : kd = 1
                · subst k1
                  go_wp2_with (go_at_call 10; refine HMP.out.mono ?_; rintro e w2 ⟨rfl, hq2⟩; have HQ2 := Lib.hid hq2; clear hq2 HMP)
                  go_meet
                  case rel => exact ⟨_, _, HQ2⟩
                have k1b : (kd == 1) = false := by simpa using k1
                by_cases k2 : kd = 2
                · subst k2
                  go_wp2_with (go_at_call 11; refine HUN.out.mono ?_; rintro e w2 ⟨rfl, hq2⟩; have HQ2 := Lib.hid hq2; clear hq2 HUN)
                  go_meet
                  case rel => exact ⟨_, _, HQ2⟩
                have k2b : (kd == 2) = false := by simpa using k2
                by_cases k3 : kd = 3
                · subst k3
                  have HGD := Lib.hid (guard_any (pg : Int) _ hQ.out.d.t)
                  go_wp2_with (go_at_call 19; refine HGD.out.mono ?_; intro e w2 hmd; obtain ⟨rfl, hq2⟩ := hQ.out.marked HB.out HX.out (pg : Int) true hmd
                               rw [HMB.out]
                               have e1 : T.markS (pg : Int) true = T := by unfold Ta.markS; rw [HMB.out]; rfl
                               rw [e1] at hq2
                               have d1 := (hq2.d.b.cell (p := ⟨b, off + k * 2, none⟩) HBB.out).trans HCA.out
                               have HQ2 := Lib.hid hq2
                               clear hmd e1 hq2 HGD)
                  go_meet
                  case rel => exact ⟨_, _, HQ2⟩
                have k3b : (kd == 3) = false := by simpa using k3
                by_cases k4 : kd = 4
                · subst k4
                  have HGD := Lib.hid (guard_any (pg : Int) _ hQ.out.d.t)
                  go_wp2_with (first
                    | (go_at_call 19; refine HGD.out.mono ?_; intro e w2 hmd; obtain ⟨rfl, hq2⟩ := hQ.out.marked HB.out HX.out (pg : Int) true hmd
                       rw [HMB.out]
                       have e1 : T.markS (pg : Int) true = T := by unfold Ta.markS; rw [HMB.out]; rfl
                       rw [e1] at hq2
                       have d1 := (hq2.d.b.cell (p := ⟨b, off + k * 2, none⟩) HBB.out).trans HCA.out
                       have HQ2 := Lib.hid hq2
                       have HGU := Lib.hid (unguard_any (pg : Int) _ hq2.d.t)
                       clear hmd e1 hq2 HGD)
                    | (go_at_call 20; refine HGU.out.mono ?_; intro e w3 hmd; obtain ⟨rfl, hq3⟩ := HQ2.out.marked HB.out HX.out (pg : Int) false hmd
                       rw [HMB.out]
                       have e1 : T.markS (pg : Int) false = T := by unfold Ta.markS; rw [HMB.out]; rfl
                       rw [e1] at hq3
                       have HQ3 := Lib.hid hq3
                       clear hmd e1 hq3 HGU))
                  go_meet
                  case rel => exact ⟨_, _, HQ3⟩
                have k4b : (kd == 4) = false := by simpa using k4
                go_wp2
                go_meet
                case rel => exact ⟨_, _, hQ⟩
              case rest =>
                clear HMP HUN HMB hQ hin1 hin2 hck hcp
                obtain ⟨S', T', hQ2⟩ := hcut
                have htl := tells_any _ hQ2.out.d.t hQ2.out.x
                rw [hQ2.out.d.n] at htl
                have hcnt := hQ2.out.d.j.cnt
                rw [hQ2.out.d.o, hQ2.out.d.n] at hcnt
                have hh1 := fun (W : World) (hb : Below wc.heap.size wc W) => held_any (o : Int) W (hQ2.out.d.p.below hb)
                have hm1 := fun (W : World) (hb : Below wc.heap.size wc W) => mapped_any W (hQ2.out.d.t.below hb)
                unfold Held at hh1
                unfold Mapd at hm1
                rw [hQ2.out.d.n] at hm1
                rw [hcnt] at hh1
                have hml := mapL_le T' n
                generalize (T'.mapL n).length = M at *
                have HTL := Lib.hid htl
                have HH1 := Lib.hid hh1
                have HM1 := Lib.hid hm1
                clear htl hh1 hm1 hcnt
                go_wp2_with (first
                  | (go_at_call 21; refine HTL.out.mono ?_; rintro e w2 ⟨rfl, hb2⟩; have HB2 := Lib.hid hb2; clear hb2 HTL)
                  | (go_at_call 22; refine (HH1.out _ HB2.out).mono ?_; rintro e w3 ⟨A3, c3, rfl, _, hb3⟩; have HB3 := Lib.hid (HB2.out.trans (hb3.mono HB2.out.size)); clear hb3)
                  | (go_at_call 13; refine (HM1.out _ HB3.out).mono ?_; rintro e w4 ⟨A4, c4, rfl, _, hb4⟩; have HB4 := Lib.hid (HB3.out.trans (hb4.mono HB3.out.size)); clear hb4))
                go_roundw
                case rel => exact ⟨k + 1, S', T', by omega, by omega, by go_num, Lib.hid (hQ2.out.keep HB.out HB4.out)⟩
                case measure => simp [intOf]; omega
          · as_aux_lemma =>
              obtain ⟨f, hff, hf16, hf256, hfo⟩ := hQ.out.d.j.held hQ.out.d.t.good q (by rw [hNn]; exact hqn) hfq
              rw [hQ.out.d.o] at hfo
              have hmB : T.mB (q : Int) = true := by rw [mB_nat (by rw [hNn]; exact hqn)]; exact neB_of hfq
              have hmp := map2 hQ.out.d HB.out HX.out hQ.out.x q hqn hfq
              rw [hff] at hmp
              have HMP := Lib.hid hmp
              have HUN := Lib.hid (un2 hQ.out.d HB.out HX.out hQ.out.x q hqn hfq)
              have HMB := Lib.hid hmB
              have HFF := Lib.hid (And.intro hff (And.intro hf256 hfo))
              have hge : (q : Int) ≥ 0 := by omega
              have hltn : (q : Int) < (n : Int) := by omega
              have hwd := within_book (q : Int) ((n : Int) - 1) (by omega) (by omega) (by omega) (by omega)
              rw [show wdV (q : Int) 0 ((n : Int) - 1) = (q : Int) by unfold wdV; rw [show (n : Int) - 1 - 0 + 1 = n by omega, Int.emod_eq_of_lt (by omega) (by omega)]; omega] at hwd
              have HWD := Lib.hid hwd
              have cat := hQ.out.x.at_ q (by rw [hNn]; exact hqn)
              have hqT : q < T.n := by rw [hNn]; exact hqn
              have HQT := Lib.hid (And.intro hqn hqT)
              clear hwd
              rw [hff] at cat
              have hfge : (f : Int) ≥ 0 := by omega
              have hself : ((f : Int) != (f : Int)) = false := by simp
              clear hmB hff hfq hqT hmp hf16 hf256 hfo
              go_upto_block 4 with (go_at_call 16; refine (HWD.out _).mono ?_; rintro e w' ⟨rfl, rfl⟩)
              go_cut [18, 19, 20, 21, 22, 23, 24, 25] from 92 to 206 (fun s18 s19 s20 s21 s22 s23 s24 s25 wx => ∃ (S' : Po) (T' : Ta), Hid (Quad w B g h r o n ab gb wx S' T' T'))
              case first =>
                by_cases k1 : kd = 1
                · subst k1
                  go_wp2_with (first
                    | (go_at_call 10; refine HMP.out.mono ?_; rintro e w2 ⟨rfl, hq2⟩
                       have how := owner_any (f : Int) _ hq2.d.p
                       have hhB := hB_of HFF.out.2.1 (show 0 ≤ S.own f by rw [HFF.out.2.2]; omega)
                       rw [show S.who (f : Int) = o by unfold Po.who; rw [if_pos hhB, Int.toNat_natCast]; exact HFF.out.2.2, hhB] at how
                       have d2 := hq2.x.at_ q HQT.out.2
                       rw [HFF.out.1] at d2
                       have d3 := hq2.x.fa q
                       have HOW := Lib.hid how
                       have HQ2 := Lib.hid hq2
                       clear hq2 HMP how hhB)
                    | (go_at_call 18; refine HOW.out.mono ?_; rintro e w' ⟨rfl, rfl⟩; clear HOW))
                  go_meet
                  case rel => exact ⟨_, _, Lib.hid ⟨HQ2.out.d.set _ _ HX.out.ba HX.out.a1.symm HX.out.a2.symm HX.out.a3.symm, by have := HQ2.out.x.setSame HX.out.c q HQT.out.2; rw [HFF.out.1] at this; exact this⟩⟩
                have k1b : (kd == 1) = false := by simpa using k1
                by_cases k2 : kd = 2
                · subst k2
                  go_wp2_with (first
                    | (go_at_call 11; refine HUN.out.mono ?_; rintro e w2 ⟨rfl, f', hf', _, hq2⟩
                       obtain rfl : f' = f := by have := HFF.out.1; omega
                       have how := owner_any (f' : Int) _ hq2.d.p
                       have hown : (S.rel1 f').own f' = -1 := upd_same _ _ _
                       have hhB : (S.rel1 f').hB (f' : Int) = false := by rw [hB_nat HFF.out.2.1, hown]; rfl
                       rw [show (S.rel1 f').who (f' : Int) = 0 by unfold Po.who; rw [if_neg (by rw [hhB]; decide)], hhB] at how
                       have d2 := hq2.x.at_ q HQT.out.2
                       rw [HFF.out.1] at d2
                       have d3 := hq2.x.fa q
                       have d4 := hq2.x.gd q HQT.out.2
                       have d5 := hq2.x.fg q
                       have hne := HX.out.c
                       have HOW := Lib.hid how
                       have HQ2 := Lib.hid hq2
                       generalize T.gd q = gq at *
                       clear hq2 HUN how hown hhB hf')
                    | (go_at_call 18; refine HOW.out.mono ?_; rintro e w' ⟨rfl, rfl⟩; clear HOW))
                  go_meet
                  case rel => exact ⟨_, _, Lib.hid ⟨(HQ2.out.d.set _ _ HX.out.ba HX.out.a1.symm HX.out.a2.symm HX.out.a3.symm).set _ _ HX.out.bb HX.out.b1.symm HX.out.b2.symm HX.out.b3.symm, HQ2.out.x.unset HX.out.c q HQT.out.2⟩⟩
                have k2b : (kd == 2) = false := by simpa using k2
                by_cases k3 : kd = 3
                · subst k3
                  have HGD := Lib.hid (guard_any (q : Int) _ hQ.out.d.t)
                  go_wp2_with (go_at_call 19; refine HGD.out.mono ?_; intro e w2 hmd; obtain ⟨rfl, hq2⟩ := hQ.out.marked HB.out HX.out (q : Int) true hmd
                               rw [HMB.out]
                               have e1 : T.markS (q : Int) true = T.mark q true := by unfold Ta.markS; rw [HMB.out, if_pos rfl, Int.toNat_natCast]
                               rw [e1] at hq2
                               have d1 := (hq2.d.b.cell (p := ⟨b, off + k * 2, none⟩) HBB.out).trans HCA.out
                               have d4 := hq2.x.gd q HQT.out.2
                               have d5 := hq2.x.fg q
                               have HQ2 := Lib.hid hq2
                               generalize T.gd q = gq at *
                               clear hmd e1 hq2 HGD)
                  go_meet
                  case rel => exact ⟨_, _, Lib.hid ⟨HQ2.out.d.set _ _ HX.out.bb HX.out.b1.symm HX.out.b2.symm HX.out.b3.symm, HQ2.out.x.setG HX.out.c q HQT.out.2⟩⟩
                have k3b : (kd == 3) = false := by simpa using k3
                by_cases k4 : kd = 4
                · subst k4
                  have HGD := Lib.hid (guard_any (q : Int) _ hQ.out.d.t)
                  go_wp2_with (first
                    | (go_at_call 19; refine HGD.out.mono ?_; intro e w2 hmd; obtain ⟨rfl, hq2⟩ := hQ.out.marked HB.out HX.out (q : Int) true hmd
                       rw [HMB.out]
                       have e1 : T.markS (q : Int) true = T.mark q true := by unfold Ta.markS; rw [HMB.out, if_pos rfl, Int.toNat_natCast]
                       rw [e1] at hq2
                       have d1 := (hq2.d.b.cell (p := ⟨b, off + k * 2, none⟩) HBB.out).trans HCA.out
                       have HQ2 := Lib.hid hq2
                       have HGU := Lib.hid (unguard_any (q : Int) _ hq2.d.t)
                       clear hmd e1 hq2 HGD)
                    | (go_at_call 20; refine HGU.out.mono ?_; intro e w3 hmd; obtain ⟨rfl, hq3⟩ := HQ2.out.marked HB.out HX.out (q : Int) false hmd
                       have m2 : (T.mark q true).mB (q : Int) = true := HMB.out
                       rw [m2]
                       have e1 : (T.mark q true).markS (q : Int) false = (T.mark q true).mark q false := by unfold Ta.markS; rw [m2, if_pos rfl, Int.toNat_natCast]
                       rw [e1] at hq3
                       have d6 := (hq3.d.b.cell (p := ⟨b, off + k * 2, none⟩) HBB.out).trans HCA.out
                       have d4 := hq3.x.gd q HQT.out.2
                       have d5 := hq3.x.fg q
                       have HQ3 := Lib.hid hq3
                       generalize T.gd q = gq at *
                       clear hmd e1 hq3 HGU m2))
                  go_meet
                  case rel => exact ⟨_, _, Lib.hid ⟨HQ3.out.d.set _ _ HX.out.bb HX.out.b1.symm HX.out.b2.symm HX.out.b3.symm, (HQ3.out.x.setG (b := false) HX.out.c q HQT.out.2).congr rfl (fun _ _ => rfl) (fun j _ => by
                    show upd (upd T.gd q true) q false j = upd T.gd q false j
                    by_cases e : j = q
                    · subst e; rw [upd_same, upd_same]
                    · rw [upd_other _ _ _ _ e, upd_other _ _ _ _ e, upd_other _ _ _ _ e])⟩⟩
                have k4b : (kd == 4) = false := by simpa using k4
                go_wp2
                go_meet
                case rel => exact ⟨_, _, hQ⟩
              case rest =>
                clear HMP HUN HMB HFF HWD HQT hQ hge hltn cat hck hcp hfge hself
                obtain ⟨S', T', hQ2⟩ := hcut
                have htl := tells_any _ hQ2.out.d.t hQ2.out.x
                rw [hQ2.out.d.n] at htl
                have hcnt := hQ2.out.d.j.cnt
                rw [hQ2.out.d.o, hQ2.out.d.n] at hcnt
                have hh1 := fun (W : World) (hb : Below wc.heap.size wc W) => held_any (o : Int) W (hQ2.out.d.p.below hb)
                have hm1 := fun (W : World) (hb : Below wc.heap.size wc W) => mapped_any W (hQ2.out.d.t.below hb)
                unfold Held at hh1
                unfold Mapd at hm1
                rw [hQ2.out.d.n] at hm1
                rw [hcnt] at hh1
                have hml := mapL_le T' n
                generalize (T'.mapL n).length = M at *
                have HTL := Lib.hid htl
                have HH1 := Lib.hid hh1
                have HM1 := Lib.hid hm1
                clear htl hh1 hm1 hcnt
                go_wp2_with (first
                  | (go_at_call 21; refine HTL.out.mono ?_; rintro e w2 ⟨rfl, hb2⟩; have HB2 := Lib.hid hb2; clear hb2 HTL)
                  | (go_at_call 22; refine (HH1.out _ HB2.out).mono ?_; rintro e w3 ⟨A3, c3, rfl, _, hb3⟩; have HB3 := Lib.hid (HB2.out.trans (hb3.mono HB2.out.size)); clear hb3)
                  | (go_at_call 13; refine (HM1.out _ HB3.out).mono ?_; rintro e w4 ⟨A4, c4, rfl, _, hb4⟩; have HB4 := Lib.hid (HB3.out.trans (hb4.mono HB3.out.size)); clear hb4))
                go_roundw
                case rel => exact ⟨k + 1, S', T', by omega, by omega, by go_num, Lib.hid (hQ2.out.keep HB.out HB4.out)⟩
                case measure => simp [intOf]; omega
          · as_aux_lemma =>
              have hmB : T.mB (q : Int) = false := by rw [mB_nat (by rw [hNn]; exact hqn)]; exact hfq
              have HMP := Lib.hid (map3 hQ.out.d HB.out HX.out hQ.out.x q hqn hfq)
              have HUN := Lib.hid (un1 hQ.out.d HB.out HX.out hQ.out.x (q : Int) hmB)
              have HMB := Lib.hid hmB
              have hf1 : T.fr q = -1 := by
                have h3 := hQ.out.d.t.good.fr q
                have h4 := not_neB hfq
                omega
              have HGF := Lib.hid (show T.gd q = false by
                cases hgq : T.gd q
                · rfl
                · have := hQ.out.d.t.good.gd q hgq
                  omega)
              have hge : (q : Int) ≥ 0 := by omega
              have hltn : (q : Int) < (n : Int) := by omega
              have hwd := within_book (q : Int) ((n : Int) - 1) (by omega) (by omega) (by omega) (by omega)
              rw [show wdV (q : Int) 0 ((n : Int) - 1) = (q : Int) by unfold wdV; rw [show (n : Int) - 1 - 0 + 1 = n by omega, Int.emod_eq_of_lt (by omega) (by omega)]; omega] at hwd
              have HWD := Lib.hid hwd
              have cat := hQ.out.x.at_ q (by rw [hNn]; exact hqn)
              have hqT : q < T.n := by rw [hNn]; exact hqn
              have HQT := Lib.hid (And.intro hqn hqT)
              clear hwd
              rw [hf1] at cat
              clear hmB hf1 hfq hqT
              go_upto_block 4 with (go_at_call 16; refine (HWD.out _).mono ?_; rintro e w' ⟨rfl, rfl⟩)
              go_cut [18, 19, 20, 21, 22, 23, 24, 25] from 92 to 206 (fun s18 s19 s20 s21 s22 s23 s24 s25 wx => ∃ (S' : Po) (T' : Ta), Hid (Quad w B g h r o n ab gb wx S' T' T'))
              case first =>
                by_cases k1 : kd = 1
                · subst k1
                  go_wp2_with (first
                    | (go_at_call 10; refine HMP.out.mono ?_; rintro e w2 ⟨f, rfl, hf, hq2⟩
                       have how := owner_any (f : Int) _ hq2.d.p
                       have hown : (S.tk f (o : Int)).own f = o := upd_same _ _ _
                       have hhB := hB_of hf (by rw [hown]; omega)
                       rw [show (S.tk f (o : Int)).who (f : Int) = o by unfold Po.who; rw [if_pos hhB, Int.toNat_natCast]; exact hown, hhB] at how
                       have d2 := hq2.x.at_ q HQT.out.2
                       have d3 := hq2.x.fa q
                       have HOW := Lib.hid how
                       have HQ2 := Lib.hid hq2
                       clear hq2 HMP how hown hhB)
                    | (go_at_call 18; refine HOW.out.mono ?_; rintro e w' ⟨rfl, rfl⟩; clear HOW))
                  go_meet
                  case rel => exact ⟨_, _, Lib.hid ⟨HQ2.out.d.set _ _ HX.out.ba HX.out.a1.symm HX.out.a2.symm HX.out.a3.symm, HQ2.out.x.setA HX.out.c q HQT.out.2 HGF.out⟩⟩
                have k1b : (kd == 1) = false := by simpa using k1
                by_cases k2 : kd = 2
                · subst k2
                  go_wp2_with (go_at_call 11; refine HUN.out.mono ?_; rintro e w2 ⟨rfl, hq2⟩; have HQ2 := Lib.hid hq2; clear hq2 HUN)
                  go_meet
                  case rel => exact ⟨_, _, HQ2⟩
                have k2b : (kd == 2) = false := by simpa using k2
                by_cases k3 : kd = 3
                · subst k3
                  have HGD := Lib.hid (guard_any (q : Int) _ hQ.out.d.t)
                  go_wp2_with (go_at_call 19; refine HGD.out.mono ?_; intro e w2 hmd; obtain ⟨rfl, hq2⟩ := hQ.out.marked HB.out HX.out (q : Int) true hmd
                               rw [HMB.out]
                               have e1 : T.markS (q : Int) true = T := by unfold Ta.markS; rw [HMB.out]; rfl
                               rw [e1] at hq2
                               have d1 := (hq2.d.b.cell (p := ⟨b, off + k * 2, none⟩) HBB.out).trans HCA.out
                               have HQ2 := Lib.hid hq2
                               clear hmd e1 hq2 HGD)
                  go_meet
                  case rel => exact ⟨_, _, HQ2⟩
                have k3b : (kd == 3) = false := by simpa using k3
                by_cases k4 : kd = 4
                · subst k4
                  have HGD := Lib.hid (guard_any (q : Int) _ hQ.out.d.t)
                  go_wp2_with (first
                    | (go_at_call 19; refine HGD.out.mono ?_; intro e w2 hmd; obtain ⟨rfl, hq2⟩ := hQ.out.marked HB.out HX.out (q : Int) true hmd
                       rw [HMB.out]
                       have e1 : T.markS (q : Int) true = T := by unfold Ta.markS; rw [HMB.out]; rfl
                       rw [e1] at hq2
                       have d1 := (hq2.d.b.cell (p := ⟨b, off + k * 2, none⟩) HBB.out).trans HCA.out
                       have HQ2 := Lib.hid hq2
                       have HGU := Lib.hid (unguard_any (q : Int) _ hq2.d.t)
                       clear hmd e1 hq2 HGD)
                    | (go_at_call 20; refine HGU.out.mono ?_; intro e w3 hmd; obtain ⟨rfl, hq3⟩ := HQ2.out.marked HB.out HX.out (q : Int) false hmd
                       rw [HMB.out]
                       have e1 : T.markS (q : Int) false = T := by unfold Ta.markS; rw [HMB.out]; rfl
                       rw [e1] at hq3
                       have HQ3 := Lib.hid hq3
                       clear hmd e1 hq3 HGU))
                  go_meet
                  case rel => exact ⟨_, _, HQ3⟩
                have k4b : (kd == 4) = false := by simpa using k4
                go_wp2
                go_meet
                case rel => exact ⟨_, _, hQ⟩
              case rest =>
                clear HMP HUN HMB HGF HWD HQT hQ hge hltn cat hck hcp
                obtain ⟨S', T', hQ2⟩ := hcut
                have htl := tells_any _ hQ2.out.d.t hQ2.out.x
                rw [hQ2.out.d.n] at htl
                have hcnt := hQ2.out.d.j.cnt
                rw [hQ2.out.d.o, hQ2.out.d.n] at hcnt
                have hh1 := fun (W : World) (hb : Below wc.heap.size wc W) => held_any (o : Int) W (hQ2.out.d.p.below hb)
                have hm1 := fun (W : World) (hb : Below wc.heap.size wc W) => mapped_any W (hQ2.out.d.t.below hb)
                unfold Held at hh1
                unfold Mapd at hm1
                rw [hQ2.out.d.n] at hm1
                rw [hcnt] at hh1
                have hml := mapL_le T' n
                generalize (T'.mapL n).length = M at *
                have HTL := Lib.hid htl
                have HH1 := Lib.hid hh1
                have HM1 := Lib.hid hm1
                clear htl hh1 hm1 hcnt
                go_wp2_with (first
                  | (go_at_call 21; refine HTL.out.mono ?_; rintro e w2 ⟨rfl, hb2⟩; have HB2 := Lib.hid hb2; clear hb2 HTL)
                  | (go_at_call 22; refine (HH1.out _ HB2.out).mono ?_; rintro e w3 ⟨A3, c3, rfl, _, hb3⟩; have HB3 := Lib.hid (HB2.out.trans (hb3.mono HB2.out.size)); clear hb3)
                  | (go_at_call 13; refine (HM1.out _ HB3.out).mono ?_; rintro e w4 ⟨A4, c4, rfl, _, hb4⟩; have HB4 := Lib.hid (HB3.out.trans (hb4.mono HB3.out.size)); clear hb4))
                go_roundw
                case rel => exact ⟨k + 1, S', T', by omega, by omega, by go_num, Lib.hid (hQ2.out.keep HB.out HB4.out)⟩
                case measure => simp [intOf]; omega
        · have hlt2 : (decide ((k : Int) < (len2 : Int)) && decide ((k : Int) < 60)) = false := by
            rw [Bool.eq_false_iff]; simp; omega
          rcases (show len2 ≤ k ∨ (k < len2 ∧ 60 ≤ k) by omega) with hex | ⟨hex, hex2⟩
          all_goals
            clear hlt hlt2
            go_wp2_with (go_at_call 15; refine (known_any _).mono ?_; rintro e w4 ⟨rfl, hb4⟩; have HB4 := Lib.hid hb4; clear hb4)
            go_ret
            exact ⟨rfl, by rw [HB.out]; exact hQ.out.d.b.trans (HB4.out.mono (hQ.out.d.size HB.out))⟩
end Go.Proofs.Ytomdimplakmpeaa

/-
  innkeeperlaw7's fresh and known: A CONTRACT EACH; what a law's walk is told of a memory.
-/
import Derived.Test.YtgohmchodgoceaaRt
import Derived.Test.YtgohmchodgoceaaSm
import Derived.Test.YtgohmchodgoceaaRow
import Derived.Test.YtgohmchodgoceaaNum
namespace Go.Proofs.Ytgohmchodgoceaa
open Go.RowKit
set_option linter.unusedSimpArgs false
set_option linter.unusedVariables false

/-- all five blocks from B on -/
def Bl.From (p : Bl) (B : Nat) : Prop := B ≤ p.g ∧ B ≤ p.h ∧ B ≤ p.r ∧ B ≤ p.m ∧ B ≤ p.u
/-- another block than these -/
def Bl.Off (p : Bl) (u : Nat) : Prop := p.g ≠ u ∧ p.h ≠ u ∧ p.r ≠ u ∧ p.m ≠ u ∧ p.u ≠ u
theorem IsM.off {w : World} {p : Bl} {X : Rm} (h : IsM w p X) {u : Nat} (hu : w.heap.size ≤ u) : p.Off u := by
  obtain ⟨z1, z2, z3, z4, z5⟩ := h.z
  exact ⟨by omega, by omega, by omega, by omega, by omega⟩
/-- what a law is told: a memory, made since w0 -/
structure Me (w0 : World) (B : Nat) (p : Bl) (w : World) (X : Rm) : Prop where
  m : IsM w p X
  b : Below B w0 w
  f : p.From B
section
variable {w0 w w' : World} {B : Nat} {p : Bl} {X Y : Rm}
theorem Me.keep (d : Me w0 B p w X) (hB : B ≤ w.heap.size) (hb : Below w.heap.size w w') : Me w0 B p w' X :=
  ⟨d.m.below hb, d.b.trans (hb.mono hB), d.f⟩
theorem Me.left (d : Me w0 B p w X) (hB : B ≤ w.heap.size) (hm : IsM w' p Y) (ha : Alt p w w') : Me w0 B p w' Y :=
  ⟨hm, ha.below d.f.1 d.f.2.2.1 d.f.2.2.2.2 d.b hB, d.f⟩
theorem Me.far {u : Nat} (d : Me w0 B p w X) (o : p.Off u) (hu : B ≤ u) (i : Nat) (v : Value) : Me w0 B p (w.setCell ⟨u, i, none⟩ v) X :=
  ⟨d.m.keep (Below.heap_setCell _ _ _ _ o.1) (Below.heap_setCell _ _ _ _ o.2.1) (Below.heap_setCell _ _ _ _ o.2.2.1) (Below.heap_setCell _ _ _ _ o.2.2.2.1) (Below.heap_setCell _ _ _ _ o.2.2.2.2), d.b.setCell hu _, d.f⟩
theorem Me.size (d : Me w0 B p w X) (hB : w0.heap.size = B) : B ≤ w.heap.size := by have := d.b.size; omega
end
/-- a memory of its own -/
def FreshM (n : Nat) (w : World) (e : Ending) (w' : World) : Prop :=
  ∃ p : Bl, e = .returned (.tuple #[.pointer (some ⟨p.m, 0, none⟩), .pointer (some ⟨p.h, 0, none⟩)]) ∧ Me w w.heap.size p w' (rm0 n)
set_option maxRecDepth 100000 in
theorem freshM_any (n : Nat) (h1 : 1 ≤ n) (hn : n ≤ 64) (w : World) :
    Calls Try.prog 10 #[.int .i64 n] w (FreshM n w) := by
  obtain ⟨e1, e2⟩ := new_0 1 n (by omega) h1 hn
  have HE := Lib.hid (And.intro e1 e2)
  have HN := Lib.hid (And.intro h1 hn)
  unfold FreshM
  clear e1 e2 h1 hn
  go_enter Try.func10, Try.ntmps10
  go_wp2_with fail
  refine (newP_any _).mono ?_
  rintro e w1 ⟨rfl, hp1, hb1⟩
  have hz := hp1.z
  have HP1 := Lib.hid hp1
  have HB1 := Lib.hid hb1
  clear hp1 hb1
  go_wp2_with fail
  refine (newT_any (g := w.heap.size) (1 : Int) (n : Int) _ HP1.out).mono ?_
  rintro e w2 ⟨hp2, ht2, ⟨hne, _⟩ | ⟨_, h, r, rfl, hh, hr, hT⟩⟩
  · exact absurd HE.out.1 hne
  · have e2 : newS po0 1 (n : Int) = po0.promS 1 n := HE.out.2
    rw [e2] at hp2
    have hs := HB1.out.size
    have HP2 := Lib.hid hp2
    have HB2 := Lib.hid (ht2.below (Nat.le_refl _) (Nat.le_refl _) HB1.out HB1.out.size)
    have HT := Lib.hid hT
    have hs2 := ht2.size
    have HZ := Lib.hid hz
    clear hp2 ht2 hT e2 hz
    go_wp2_with (go_at_call 9; refine (newM_any w.heap.size h r 1 n _ (by omega) HN.out.2 HP2.out HT.out).mono ?_; rintro e w3 ⟨m, u, rfl, hm, hu, hM, hb3⟩; have HM := Lib.hid hM; have HB3 := Lib.hid hb3; clear hM hb3)
    go_ret2
    exact ⟨⟨w.heap.size, h, r, m, u⟩, rfl, HM.out, HB2.out.trans (HB3.out.mono (by omega)), ⟨Nat.le_refl _, show _ ≤ h by omega, show _ ≤ r by omega, show _ ≤ m by omega, show _ ≤ u by omega⟩⟩
theorem kn1 : ((rm0 2).putS 62 (w4 67305985)).bV 64 = 3 ∧ decide (64 < ((rm0 2).putS 62 (w4 67305985)).n * 64) = true ∧ ((rm0 2).putS 62 (w4 67305985)).wdV 125 = 0 ∧ decide (125 + 4 ≤ ((rm0 2).putS 62 (w4 67305985)).n * 64) = false := by decide +kernel
theorem kn2 : tuL ((rm0 2).putS 62 (w4 67305985)).tu ((rm0 2).putS 62 (w4 67305985)).n = [0, 1] ∧ ((((rm0 2).putS 62 (w4 67305985)).n * 64 : Nat) : Int) = 128 := by decide +kernel
set_option maxRecDepth 100000 in
theorem known_any (w : World) :
    Calls Try.prog 15 #[] w fun e w' => e = .returned (.bool true) ∧ Below w.heap.size w w' := by
  go_enter Try.func15, Try.ntmps15
  go_wp2_with fail
  refine (freshM_any 2 (by omega) (by omega) _).mono ?_
  rintro e w1 ⟨p, rfl, hd⟩
  have HD := Lib.hid hd
  clear hd
  go_wp2_with fail
  refine (putWord_any 62 (by omega) 67305985 (by omega) _ HD.out.m).mono ?_
  rintro e w2 ⟨rfl, hm2, ha2⟩
  have HD2 := Lib.hid (HD.out.left (HD.out.size rfl) hm2 ha2)
  clear hm2 ha2 HD
  rw [show decide (62 + 4 ≤ (rm0 2).n * 64) = true from rfl]
  obtain ⟨k1, k2, k3, k4⟩ := kn1
  obtain ⟨k5, k6⟩ := kn2
  have hby := byteM_any 64 (by omega) _ HD2.out.m
  have hwd := fun W (hb : Below w2.heap.size w2 W) => wordM_any 125 (by omega) W (HD2.out.m.below hb)
  have hsz := fun W (hb : Below w2.heap.size w2 W) => size_any W (HD2.out.m.below hb)
  have htu := fun W (hb : Below w2.heap.size w2 W) => turned_any W (HD2.out.m.below hb)
  rw [k1, k2] at hby
  rw [k3, k4] at hwd
  rw [k5] at htu
  rw [k6] at hsz
  have HBY := Lib.hid hby
  have HWD := Lib.hid hwd
  have HSZ := Lib.hid hsz
  have HTU := Lib.hid htu
  have HB := Lib.hid HD2.out.b
  have hz := HD2.out.size rfl
  generalize (rm0 2).putS 62 (w4 67305985) = Y at *
  clear hby hwd hsz htu k1 k2 k3 k4 k5 k6 HD2
  go_wp2_with (first
    | (go_at_call 33; refine HBY.out.mono ?_; rintro e w3 ⟨rfl, m3, rfl⟩)
    | (go_at_call 24; refine (HWD.out _ (Below_drewN (Below.refl _ _) _)).mono ?_; rintro e w4 ⟨rfl, m4, rfl⟩)
    | (go_at_call 34; refine (HSZ.out _ (Below_drewN (Below.refl _ _) _)).mono ?_; rintro e w' ⟨rfl, rfl⟩)
    | (go_at_call 27; refine (HTU.out _ (Below_drewN (Below.refl _ _) _)).mono ?_; rintro e w5 ⟨A5, c5, rfl, ho5, hb5⟩; have HO5 := Lib.hid ho5; have HB5 := Lib.hid hb5; clear ho5 hb5))
  refine (same_any A5 (some ⟨w5.heap.size, 0, none⟩) 2 c5 2 [0, 1] rfl (by omega) _ (((Rd.of_own HO5.out).below ((Below.refl _ _).alloc (Nat.le_refl _) _)).more (by simp)) ?_).mono ?_
  · intro _
    refine ⟨w5.heap.size, 0, rfl, by simp, fun j u hu => ?_⟩
    rw [Nat.zero_add, (Blk.new w5 3 #[.int .i64 0, .int .i64 1]).cell]
    simpa [nv] using hu
  rintro e w6 ⟨rfl, hb6⟩
  have HB6 := Lib.hid hb6
  clear hb6
  go_wp2
  go_ret
  refine ⟨rfl, ?_⟩
  have h5 : Below w2.heap.size w2 w5 := (Below_drewN (Below.refl _ _) (m3 + m4)).trans HB5.out
  have s5 := h5.size
  exact HB.out.trans ((h5.mono hz).trans (((Below.refl _ _).alloc (by omega) _).trans (HB6.out.mono (by simp; omega))))
end Go.Proofs.Ytgohmchodgoceaa

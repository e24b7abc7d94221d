/-
  innkeeperlaw3.HcodeTexts returns true: its walk.
-/
import Derived.Test.YthobedekeebadaaDoorHm2
import Derived.Test.YthobedekeebadaaDoorHx
import Derived.Test.YthobedekeebadaaDoorClass
import Derived.Deep.QuietTactic
import Derived.BigQuiet
import Derived.Test.YthobedekeebadaaDoorHt
import Derived.Test.YthobedekeebadaaDoorHc5
import Derived.Test.YthobedekeebadaaDoorHk
import Derived.Test.YthobedekeebadaaDoorRowH
import Derived.Deep.RegionHeld3
import Derived.Deep.CutRange
import Derived.Outline
namespace Go.Proofs.YthobedekeebadaaDoor
open Go.RowKit
set_option linter.unusedSimpArgs false
set_option linter.unusedVariables false

/-- two boxed instructions stand -/
def Two (g5 g6 : Nat) (xo xd xa xb xn yo yd ya yb yn : Int) (w : World) : Prop :=
  Box5 g5 (.int .i64 xo) (.int .i64 xd) (.int .i64 xa) (.int .i64 xb) (.int .u32 xn) w ∧ Box5 g6 (.int .i64 yo) (.int .i64 yd) (.int .i64 ya) (.int .i64 yb) (.int .u32 yn) w ∧ g5 < w.heap.size ∧ g6 < w.heap.size
theorem Two.keep {g5 g6 : Nat} {xo xd xa xb xn yo yd ya yb yn : Int} {w w' : World} (h : Two g5 g6 xo xd xa xb xn yo yd ya yb yn w) (hb : Below w.heap.size w w') : Two g5 g6 xo xd xa xb xn yo yd ya yb yn w' :=
  ⟨h.1.keep hb h.2.2.1, h.2.1.keep hb h.2.2.2, Nat.lt_of_lt_of_le h.2.2.1 hb.size, Nat.lt_of_lt_of_le h.2.2.2 hb.size⟩
theorem ten_of {W0 w' : World} {G : Nat} {o d a b n o' d' a' b' n' : Int} (kz : G + 2 = W0.heap.size) (c : Box5 G (.int .i64 o) (.int .i64 d) (.int .i64 a) (.int .i64 b) (.int .u32 n) W0) (e : Box5 (G + 1) (.int .i64 o') (.int .i64 d') (.int .i64 a') (.int .i64 b') (.int .u32 n') W0) (hB : Below W0.heap.size W0 w') :
    w'.cell? ⟨G, 0, none⟩ = some (.int .i64 o) ∧ w'.cell? ⟨G, 1, none⟩ = some (.int .i64 d) ∧ w'.cell? ⟨G, 2, none⟩ = some (.int .i64 a) ∧ w'.cell? ⟨G, 3, none⟩ = some (.int .i64 b) ∧ w'.cell? ⟨G, 4, none⟩ = some (.int .u32 n) ∧ w'.cell? ⟨G + 1, 0, none⟩ = some (.int .i64 o') ∧ w'.cell? ⟨G + 1, 1, none⟩ = some (.int .i64 d') ∧ w'.cell? ⟨G + 1, 2, none⟩ = some (.int .i64 a') ∧ w'.cell? ⟨G + 1, 3, none⟩ = some (.int .i64 b') ∧ w'.cell? ⟨G + 1, 4, none⟩ = some (.int .u32 n') := by
  obtain ⟨c0, c1, c2, c3, c4⟩ := c.keep hB (by omega)
  obtain ⟨e0, e1, e2, e3, e4⟩ := e.keep hB (by omega)
  exact ⟨c0, c1, c2, c3, c4, e0, e1, e2, e3, e4⟩

set_option maxRecDepth 100000 in
set_option maxHeartbeats 8000000 in
theorem hcodeTexts_walk (q0 q1 : Hi) (w : World) (w0 : q0.In) (w1 : q1.In) (ht : Tab w.heap.size w) :
    Calls Tryd.prog 5 #[q0.v, q1.v] w fun e w' => e = .returned (.bool true) ∧ Below w.heap.size w w' := by
  obtain ⟨o, d, a, b, n⟩ := q0
  obtain ⟨o', d', a', b', n'⟩ := q1
  obtain ⟨f1, f2, f3, f4, f5⟩ := w0
  obtain ⟨h1, h2, h3, h4, h5⟩ := w1
  simp only [Hi.v] at *
  have HM := Lib.hid (made_exact o d a b n f1.1 f1.2 f2.1 f2.2 f3.1 f3.2 f4.1 f4.2)
  have HM' := Lib.hid (made_exact o' d' a' b' n' h1.1 h1.2 h2.1 h2.2 h3.1 h3.2 h4.1 h4.2)
  have hx := mdI_ok o d a b n f5.1 f5.2
  have hy := mdI_ok o' d' a' b' n' h5.1 h5.2
  generalize mdI o d a b n = x at *
  generalize mdI o' d' a' b' n' = y at *
  obtain ⟨xo, xd, xa, xb, xn⟩ := x
  obtain ⟨yo, yd, ya, yb, yn⟩ := y
  simp only [Hi.v] at HM HM'
  have HX := Lib.hid hx
  have HY := Lib.hid hy
  have HT := Lib.hid ht
  clear ht hx hy f1 f2 f3 f4 f5 h1 h2 h3 h4 h5
  go_enter Tryd.func5, Tryd.ntmps5
  go_wp2_with fail
  have k0 : Box5 w.heap.size (.int .i64 o) (.int .i64 d) (.int .i64 a) (.int .i64 b) (.int .u32 n) ((w.alloc (.cells #[.int .i64 o, .int .i64 d, .int .i64 a, .int .i64 b, .int .u32 n] 24)).alloc (.cells #[.int .i64 o', .int .i64 d', .int .i64 a', .int .i64 b', .int .u32 n'] 24)) :=
    (Box5.new w _ _ _ _ _ _).keep ((Below.refl _ _).alloc (Nat.le_refl _) _) (by simp)
  have k1 : Box5 (w.heap.size + 1) (.int .i64 o') (.int .i64 d') (.int .i64 a') (.int .i64 b') (.int .u32 n') ((w.alloc (.cells #[.int .i64 o, .int .i64 d, .int .i64 a, .int .i64 b, .int .u32 n] 24)).alloc (.cells #[.int .i64 o', .int .i64 d', .int .i64 a', .int .i64 b', .int .u32 n'] 24)) := by
    have := Box5.new (w.alloc (.cells #[.int .i64 o, .int .i64 d, .int .i64 a, .int .i64 b, .int .u32 n] 24)) (.int .i64 o') (.int .i64 d') (.int .i64 a') (.int .i64 b') (.int .u32 n') 24
    simpa using this
  have kz : w.heap.size + 2 = ((w.alloc (.cells #[.int .i64 o, .int .i64 d, .int .i64 a, .int .i64 b, .int .u32 n] 24)).alloc (.cells #[.int .i64 o', .int .i64 d', .int .i64 a', .int .i64 b', .int .u32 n'] 24)).heap.size := by simp
  have kb := below_two w (.cells #[.int .i64 o, .int .i64 d, .int .i64 a, .int .i64 b, .int .u32 n] 24) (.cells #[.int .i64 o', .int .i64 d', .int .i64 a', .int .i64 b', .int .u32 n'] 24)
  generalize (w.alloc (.cells #[.int .i64 o, .int .i64 d, .int .i64 a, .int .i64 b, .int .u32 n] 24)).alloc (.cells #[.int .i64 o', .int .i64 d', .int .i64 a', .int .i64 b', .int .u32 n'] 24) = W0 at *
  have K0 := Lib.hid k0
  have K1 := Lib.hid k1
  obtain ⟨c0, c1, c2, c3, c4⟩ := k0
  obtain ⟨e0, e1, e2, e3, e4⟩ := k1
  have KB := Lib.hid kb
  clear kb
  generalize hG : w.heap.size = G at *
  have HG := Lib.hid hG
  clear hG
  go_cut [5, 6] from 11 to 14 (fun s5 s6 wx => ∃ g5 g6 : Nat, s5 = .pointer (some ⟨g5, 0, none⟩) ∧ s6 = .pointer (some ⟨g6, 0, none⟩) ∧ Hid (Box5 g5 (.int .i64 xo) (.int .i64 xd) (.int .i64 xa) (.int .i64 xb) (.int .u32 xn) wx ∧ Box5 g6 (.int .i64 yo) (.int .i64 yd) (.int .i64 ya) (.int .i64 yb) (.int .u32 yn) wx ∧ g5 < wx.heap.size ∧ g6 < wx.heap.size ∧ Below G w wx))
  case first =>
    go_region_held3 (fun w' => w'.cell? ⟨G, 0, none⟩ = some (.int .i64 o) ∧ w'.cell? ⟨G, 1, none⟩ = some (.int .i64 d) ∧ w'.cell? ⟨G, 2, none⟩ = some (.int .i64 a) ∧ w'.cell? ⟨G, 3, none⟩ = some (.int .i64 b) ∧ w'.cell? ⟨G, 4, none⟩ = some (.int .u32 n) ∧ w'.cell? ⟨G + 1, 0, none⟩ = some (.int .i64 o') ∧ w'.cell? ⟨G + 1, 1, none⟩ = some (.int .i64 d') ∧ w'.cell? ⟨G + 1, 2, none⟩ = some (.int .i64 a') ∧ w'.cell? ⟨G + 1, 3, none⟩ = some (.int .i64 b') ∧ w'.cell? ⟨G + 1, 4, none⟩ = some (.int .u32 n'))
      (first | exact ten_of kz K0.out K1.out (Below.refl _ _).drew | (refine ten_of kz K0.out K1.out ?_; repeat (first | exact Below.refl _ _ | refine Below.drew ?_ | refine Below.alloc ?_ (by first | omega | (simp; done) | (simp; omega)) _ | refine Below.setCell ?_ (by first | omega | (simp; done) | (simp; omega)) _)))
      (first | (go_at_call 6; refine (HM.out _).mono ?_; rintro e w' ⟨rfl, x1, x2, x3, rfl⟩; clear HM) | (go_at_call 6; refine (HM'.out _).mono ?_; rintro e w' ⟨rfl, x1, x2, x3, rfl⟩))
    all_goals
      go_wp2_with fail
      go_meet
      case rel =>
        refine ⟨_, _, rfl, rfl, Lib.hid ⟨?_, ?_, ?_, ?_, ?_⟩⟩
        · unfold Box5; go_simp
        · unfold Box5; go_simp
        · first | omega | (simp; done) | (simp; omega)
        · first | omega | (simp; done) | (simp; omega)
        · repeat (first | exact KB.out | refine Below.drew ?_ | refine Below.alloc ?_ (by first | omega | (simp; done) | (simp; omega)) _ | refine Below.setCell ?_ (by first | omega | (simp; done) | (simp; omega)) _)
  case rest =>
    obtain ⟨g5, g6, rfl, rfl, HH⟩ := hcut
    clear c0 c1 c2 c3 c4 e0 e1 e2 e3 e4 K0 K1 HM HM' kz KB
    have HS0 := Lib.hid (show Two g5 g6 xo xd xa xb xn yo yd ya yb yn wc from ⟨HH.out.1, HH.out.2.1, HH.out.2.2.1, HH.out.2.2.2.1⟩)
    have BG := Lib.hid HH.out.2.2.2.2
    clear HH
    have hex := encode_any xo xd xa xb xn HX.out.2.1 HX.out.2.2
    have hey := encode_any yo yd ya yb yn HY.out.2.1 HY.out.2.2
    have okx : okH xo xd xa xb xn = true := HX.out.1
    have oky : okH yo yd ya yb yn = true := HY.out.1
    simp only [okx, true_implies] at hex
    simp only [oky, true_implies] at hey
    have htx := fun (W : World) (hW : Tab W.heap.size W) => text_any xo xd xa xb xn HX.out.2.1 HX.out.2.2 W hW
    have hty := fun (W : World) (hW : Tab W.heap.size W) => text_any yo yd ya yb yn HY.out.2.1 HY.out.2.2 W hW
    obtain ⟨q, r1, r2, r3⟩ := eq_one ⟨xo, xd, xa, xb, xn⟩ ⟨yo, yd, ya, yb, yn⟩ HX.out HY.out
    simp only [Hi.v, Hi.enc] at r1 r2 r3
    have hcx : ∀ (W : World) (B : Nat) (A : Option Addr) (c : Nat), W.ownsRow B 5 1 (.slice A 8 c) 8 (bv (ehV xo xd xa xb xn)) → (convert 28 9 (.slice A 8 c)).run Tryd.prog W = .ok (.string ⟨(ehV xo xd xa xb xn).toArray⟩) W := fun W B A c h => conv_rd W W.heap.size A c (ehV xo xd xa xb xn) (Rd.of_own h)
    have hcy : ∀ (W : World) (B : Nat) (A : Option Addr) (c : Nat), W.ownsRow B 5 1 (.slice A 8 c) 8 (bv (ehV yo yd ya yb yn)) → (convert 28 9 (.slice A 8 c)).run Tryd.prog W = .ok (.string ⟨(ehV yo yd ya yb yn).toArray⟩) W := fun W B A c h => conv_rd W W.heap.size A c (ehV yo yd ya yb yn) (Rd.of_own h)
    generalize (⟨(ehV xo xd xa xb xn).toArray⟩ : ByteArray) = R1 at *
    generalize (⟨(ehV yo yd ya yb yn).toArray⟩ : ByteArray) = R2 at *
    generalize (⟨(thV xo xd xa xb xn).toArray⟩ : ByteArray) = T1 at *
    generalize (⟨(thV yo yd ya yb yn).toArray⟩ : ByteArray) = T2 at *
    have HEX := Lib.hid hex
    have HEY := Lib.hid hey
    have HTX := Lib.hid htx
    have HTY := Lib.hid hty
    have HCX := Lib.hid hcx
    have HCY := Lib.hid hcy
    have R1' := Lib.hid r1
    have R2' := Lib.hid (show (R1.toList == R2.toList) = q by simpa [go_sem] using r2 w)
    have R3' := Lib.hid (show (T1.toList == T2.toList) = q by simpa [go_sem] using r3 w)
    have r4 : (q == q) = true := by simp
    obtain ⟨c0, c1, c2, c3, c4⟩ := HS0.out.1
    clear hex hey htx hty hcx hcy okx oky r1 r2 r3
    go_wp2_with fail
    refine (HEX.out _).mono ?_
    rintro e w1 ⟨hb1, ⟨Ax, cx, rfl, hox⟩, _⟩
    have HS1 := Lib.hid (HS0.out.keep hb1)
    have hzG : G ≤ wc.heap.size := by have := BG.out.size; have := HG.out; omega
    have B1 := Lib.hid (BG.out.trans (hb1.mono hzG))
    have hzG1 : G ≤ w1.heap.size := Nat.le_trans hzG hb1.size
    have OX1 := Lib.hid hox
    clear c0 c1 c2 c3 c4 hb1 hox HS0 BG HEX hzG
    obtain ⟨c0, c1, c2, c3, c4⟩ := HS1.out.2.1
    go_wp2_with fail
    refine (HEY.out _).mono ?_
    rintro e w2 ⟨hb2, ⟨Ay, cy, rfl, hoy⟩, _⟩
    have HS2 := Lib.hid (HS1.out.keep hb2)
    have B2 := Lib.hid (B1.out.trans (hb2.mono hzG1))
    have hzG2 : G ≤ w2.heap.size := Nat.le_trans hzG1 hb2.size
    have OX2 := Lib.hid (own_below OX1.out hb2)
    have OY2 := Lib.hid hoy
    clear c0 c1 c2 c3 c4 hb2 hoy HS1 B1 HEY OX1 hzG1
    go_wp2_with fail
    obtain ⟨ι, WW, hne, hS, hall⟩ := class_of (fun w' => Two g5 g6 xo xd xa xb xn yo yd ya yb yn w' ∧ w2.heap.size ≤ w'.heap.size ∧ Below w2.heap.size w2 w') w2 ⟨HS2.out, Nat.le_refl _, Below.refl _ _⟩
    have hkeep : ∀ x w', Below (WW x).heap.size (WW x) w' → ∃ y, w' = WW y := fun x w' hb => hall _ ⟨(hS x).1.keep hb, Nat.le_trans (hS x).2.1 hb.size, (hS x).2.2.trans (hb.mono (hS x).2.1)⟩
    have a0 := fun x => (hS x).1.1.1
    have a1 := fun x => (hS x).1.1.2.1
    have a2 := fun x => (hS x).1.1.2.2.1
    have a3 := fun x => (hS x).1.1.2.2.2.1
    have a4 := fun x => (hS x).1.1.2.2.2.2
    have b0 := fun x => (hS x).1.2.1.1
    have b1 := fun x => (hS x).1.2.1.2.1
    have b2 := fun x => (hS x).1.2.1.2.2.1
    have b3 := fun x => (hS x).1.2.1.2.2.2.1
    have b4 := fun x => (hS x).1.2.1.2.2.2.2
    have v1 : ∀ x, (convert 28 9 (.slice Ax 8 cx)).run Tryd.prog (WW x) = .ok (.string R1) (WW x) := fun x => HCX.out _ _ _ _ (own_below OX2.out (hS x).2.2)
    have v2 : ∀ x, (convert 28 9 (.slice Ay 8 cy)).run Tryd.prog (WW x) = .ok (.string R2) (WW x) := fun x => HCY.out _ _ _ _ (own_below OY2.out (hS x).2.2)
    have tb : ∀ x, Tab (WW x).heap.size (WW x) := fun x => (HT.out.on (B2.out.trans ((hS x).2.2.mono hzG2))).up (Nat.le_trans hzG2 (hS x).2.1)
    have qX := Lib.hid (fun x => (HTX.out (WW x) (tb x)).mono fun e w' (h : _ ∧ _) => (⟨h.1, hkeep x w' h.2⟩ : _ ∧ ∃ y, w' = WW y))
    have qY := Lib.hid (fun x => (HTY.out (WW x) (tb x)).mono fun e w' (h : _ ∧ _) => (⟨h.1, hkeep x w' h.2⟩ : _ ∧ ∃ y, w' = WW y))
    have qK := Lib.hid (fun x => (known_any (WW x)).mono fun e w' (h : _ ∧ _) => (⟨h.1, hkeep x w' h.2⟩ : _ ∧ ∃ y, w' = WW y))
    have HST := Lib.hid (show ∃ x, w2.drew = WW x from hall _ ⟨⟨HS2.out.1, HS2.out.2.1, HS2.out.2.2.1, HS2.out.2.2.2⟩, Nat.le_refl _, (Below.refl _ _).drew⟩)
    have HF := Lib.hid (fun x => (B2.out.trans ((hS x).2.2.mono hzG2)))
    have r1 := R1'.out
    have r2 := R2'.out
    have r3 := R3'.out
    clear hS hall hkeep tb HTX HTY HCX HCY OX2 OY2 HS2 B2 R1' R2' R3' HX HY HT
    refine wp_region_class WW (by kernel_rfl) (by kernel_rfl) HST.out ?_
    repeat quiet_step ((first | (go_at_call 10; exact qK.out _) | (go_at_call 13; with_reducible exact qX.out _) | (go_at_call 13; with_reducible exact qY.out _)))
    refine wpQuiet_nil ?_
    rintro _ ⟨x, rfl⟩
    have hx := Lib.hid (HF.out x)
    clear a0 a1 a2 a3 a4 b0 b1 b2 b3 b4 v1 v2 qX qY qK HST HF r1 r2 r3
    generalize WW x = w3 at *
    go_wp2_with fail
    go_ret
    have hg := HG.out
    subst hg
    exact ⟨rfl, hx.out⟩
end Go.Proofs.YthobedekeebadaaDoor

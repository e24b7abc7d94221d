/-
  innkeeperlaw3.HcodeTells returns true: its walk.
-/
import Derived.Test.YthobedekeebadaaDoorHs3
import Derived.Test.YthobedekeebadaaDoorHq
import Derived.Test.YthobedekeebadaaDoorHk
import Derived.Test.YthobedekeebadaaDoorHm
import Derived.Test.YthobedekeebadaaDoorRowH
import Derived.Outline
namespace Go.Proofs.YthobedekeebadaaDoor
open Go.RowKit
set_option linter.unusedSimpArgs false
set_option linter.unusedVariables false

set_option maxRecDepth 100000 in
set_option maxHeartbeats 4000000 in
theorem hcodeTells_walk (q0 : Hi) (A1 : Option Addr) (len1 cap1 : Nat) (z1 : List Int) (w : World) (w0 : q0.In) (w1 : IsRow .u8 w A1 len1 cap1 z1) (ht : Tab w.heap.size w) :
    Calls Tryd.prog 4 #[q0.v, .slice A1 len1 cap1] w fun e w' => e = .returned (.bool true) ∧ Below w.heap.size w w' := by
  obtain ⟨o, d, a, b, n⟩ := q0
  obtain ⟨f1, f2, f3, f4, f5⟩ := w0
  obtain ⟨hl, hc, hA, l, rfl, hrd⟩ := w1.bytes
  simp only [Hi.v] at *
  have HM := Lib.hid (made_any o d a b n f1.1 f1.2 f2.1 f2.2 f3.1 f3.2 f4.1 f4.2)
  have hmo := mdI_ok o d a b n f5.1 f5.2
  generalize mdI o d a b n = mm at *
  obtain ⟨mo, md, ma, mb, mn⟩ := mm
  simp only [Hi.v] at HM
  have HRD := Lib.hid hrd
  have HS1 := Lib.hid (fun (W : World) (hb : Below w.heap.size w W) => same_any o d a b n f5.1 f5.2 W ((ht.on hb).up hb.size))
  have HS2 := Lib.hid (fun (W : World) (hb : Below w.heap.size w W) => same_any mo md ma mb mn hmo.2.1 hmo.2.2 W ((ht.on hb).up hb.size))
  clear ht hrd f1 f2 f3 f4 f5 w1 hA hmo
  go_enter Tryd.func4, Tryd.ntmps4
  go_wp2_with fail
  have K0 := Lib.hid (Kept.new w o d a b n 24)
  generalize w.alloc (.cells #[.int .i64 o, .int .i64 d, .int .i64 a, .int .i64 b, .int .u32 n] 24) = W0 at *
  refine (HS1.out _ K0.out.2.2).mono ?_
  rintro e w2 ⟨rfl, hb2⟩
  have K2 := Lib.hid (K0.out.keep hb2)
  obtain ⟨c0, c1, c2, c3, c4⟩ := K2.out.1
  clear hb2 K0 HS1
  go_wp2_with fail
  refine (HM.out _).mono ?_
  rintro e w3 ⟨rfl, hb3⟩
  have K3 := Lib.hid (K2.out.keep hb3)
  clear hb3 K2 HM c0 c1 c2 c3 c4
  go_wp2_with fail
  refine (HS2.out _ K3.out.2.2).mono ?_
  rintro e w4 ⟨rfl, hb4⟩
  have K4 := Lib.hid (K3.out.keep hb4)
  clear hb4 K3 HS2
  go_wp2_with fail
  refine (reads_any A1 cap1 l w4 ((HRD.out.below K4.out.2.2).more K4.out.2.2.size)).mono ?_
  rintro e w5 ⟨rfl, hb5⟩
  have K5 := Lib.hid (K4.out.keep hb5)
  clear hb5 K4
  go_wp2_with fail
  refine (sized_any A1 cap1 l hl hc w5 ((HRD.out.below K5.out.2.2).more K5.out.2.2.size)).mono ?_
  rintro e w6 ⟨rfl, hr6, hb6⟩
  have K6 := Lib.hid (K5.out.keep hb6)
  have hr := reads_any (some ⟨w5.heap.size, 0, none⟩) 8 (sz8 l) w6 hr6
  rw [sz8_len] at hr
  have HR := Lib.hid hr
  clear hb6 K5 hr hr6
  go_wp2_with fail
  refine HR.out.mono ?_
  rintro e w7 ⟨rfl, hb7⟩
  have K7 := Lib.hid (K6.out.keep hb7)
  clear hb7 K6 HR
  go_wp2_with fail
  refine (known_any _).mono ?_
  rintro e w8 ⟨rfl, hb8⟩
  have K8 := Lib.hid (K7.out.keep hb8)
  clear hb8 K7
  go_wp2_with fail
  go_ret
  exact ⟨rfl, K8.out.2.2⟩
end Go.Proofs.YthobedekeebadaaDoor

/-
  innkeeperlaw2.same and innkeeperlaw2.reads return true.
-/
import Derived.Test.YtmgjojgjonighaaDoorGs1
import Derived.Test.YtmgjojgjonighaaDoorGs2
import Derived.Test.YtmgjojgjonighaaDoorGs3
import Derived.Test.YtmgjojgjonighaaDoorGr2
import Derived.Test.YtmgjojgjonighaaDoorGc7
import Derived.Test.YtmgjojgjonighaaDoorGc8
namespace Go.Proofs.YtmgjojgjonighaaDoor
open Go.RowKit
set_option linter.unusedSimpArgs false
set_option linter.unusedVariables false

theorem same_any (op n : Int) (n0 : 0 ≤ n) (n1 : n < 4294967296) (w : World) (ht : Tab w.heap.size w) :
    Calls Tryd.prog 9 #[.agg #[.int .i64 op, .int .u32 n]] w fun e w' => e = .returned (.bool true) ∧ Below w.heap.size w w' := by
  cases h : okV op n with
  | false => exact same_not op n h n0 n1 w ht
  | true =>
    by_cases h1 : szV op = 1
    · exact same_ok1 op n h h1 n0 n1 w ht
    · have := ok_sz h
      have h0 : 0 ≤ szV op := by unfold szV; (repeat' split) <;> omega
      exact same_okn op n h (by omega) n0 n1 w ht

theorem dc_cases (l : List UInt8) : (dcE l = 0 ∧ dcS l ≠ 0) ∨ (dcE l = 10 ∧ dcS l = 0) ∨ (dcE l = 12 ∧ dcS l = 0) := by
  by_cases h0 : l = []
  · right; left; simp [dcS, dcE, h0]
  by_cases h1 : szV (nth l 0) = 0
  · right; right; simp [dcS, dcE, h0, h1]
  by_cases h2 : (l.length : Int) < szV (nth l 0)
  · right; left; simp [dcS, dcE, h0, h1, h2]
  · left; simp [dcS, dcE, h0, h1, h2]

set_option maxRecDepth 100000 in
set_option maxHeartbeats 2000000 in
theorem reads_any (A : Option Addr) (c : Nat) (l : List UInt8) (hl : l.length ≤ c) (hc : c ≤ maxLen) (w : World) (hr : Rd w w.heap.size A (bv l)) :
    Calls Tryd.prog 10 #[.slice A l.length c] w fun e w' => e = .returned (.bool true) ∧ Below w.heap.size w w' := by
  have h1 := decode_any A c l hl hc w hr
  have h2 := fun (W : World) (hb : Below w.heap.size w W) => rdecode_any A c l hl hc W ((Rd.below hr hb).more hb.size)
  have hcs := dc_cases l
  generalize l.length = L at *
  generalize dcO l = O at *
  generalize dcN l = N at *
  generalize dcS l = M at *
  generalize dcE l = E at *
  clear hr hl hc
  have H1 := Lib.hid h1
  have H2 := Lib.hid h2
  clear h1 h2
  rcases hcs with ⟨rfl, hM⟩ | ⟨rfl, rfl⟩ | ⟨rfl, rfl⟩
  · have hM2 : (M == 0) = false := by simpa using hM
    go_enter Tryd.func10, Tryd.ntmps10
    go_wp2_with fail
    refine H1.out.mono ?_
    rintro e w1 ⟨rfl, hb⟩
    go_wp2_with fail
    obtain ⟨c0, c1, cs, cb⟩ := box2_new w1 (.int .i64 O) (.int .u32 N) 26
    have hb1 := hb.trans (cb.mono hb.size)
    refine (H2.out _ hb1).mono ?_
    rintro e w2 ⟨rfl, hb2⟩
    obtain ⟨d0, d1, ds, db⟩ := box2_keep ⟨c0, c1, cs, cb⟩ hb2
    have hb3 := hb1.trans (hb2.mono hb1.size)
    clear c0 c1 cs cb hb hb1 hb2 H1 H2
    go_wp2
    go_ret
    exact ⟨rfl, by first | exact hb3.alloc hb3.size _ | exact (hb3.alloc hb3.size _).drew | exact Below_drewN (hb3.alloc hb3.size _) _⟩
  · go_enter Tryd.func10, Tryd.ntmps10
    go_wp2_with fail
    refine H1.out.mono ?_
    rintro e w1 ⟨rfl, hb⟩
    go_wp2_with fail
    obtain ⟨c0, c1, cs, cb⟩ := box2_new w1 (.int .i64 O) (.int .u32 N) 26
    have hb1 := hb.trans (cb.mono hb.size)
    refine (H2.out _ hb1).mono ?_
    rintro e w2 ⟨rfl, hb2⟩
    obtain ⟨d0, d1, ds, db⟩ := box2_keep ⟨c0, c1, cs, cb⟩ hb2
    have hb3 := hb1.trans (hb2.mono hb1.size)
    clear c0 c1 cs cb hb hb1 hb2 H1 H2
    go_wp2
    go_ret
    exact ⟨rfl, by first | exact hb3.alloc hb3.size _ | exact (hb3.alloc hb3.size _).drew | exact Below_drewN (hb3.alloc hb3.size _) _⟩
  · go_enter Tryd.func10, Tryd.ntmps10
    go_wp2_with fail
    refine H1.out.mono ?_
    rintro e w1 ⟨rfl, hb⟩
    go_wp2_with fail
    obtain ⟨c0, c1, cs, cb⟩ := box2_new w1 (.int .i64 O) (.int .u32 N) 26
    have hb1 := hb.trans (cb.mono hb.size)
    refine (H2.out _ hb1).mono ?_
    rintro e w2 ⟨rfl, hb2⟩
    obtain ⟨d0, d1, ds, db⟩ := box2_keep ⟨c0, c1, cs, cb⟩ hb2
    have hb3 := hb1.trans (hb2.mono hb1.size)
    clear c0 c1 cs cb hb hb1 hb2 H1 H2
    go_wp2
    go_ret
    exact ⟨rfl, by first | exact hb3.alloc hb3.size _ | exact (hb3.alloc hb3.size _).drew | exact Below_drewN (hb3.alloc hb3.size _) _⟩
end Go.Proofs.YtmgjojgjonighaaDoor

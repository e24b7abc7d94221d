/-
  hcode.Encode: A CONTRACT.
-/
import Derived.Test.YthobedekeebadaaDoorHc4
namespace Go.Proofs.YthobedekeebadaaDoor
open Go.RowKit
set_option linter.unusedSimpArgs false
set_option linter.unusedVariables false

theorem box_rdI (w : World) (x : Obj) (o d a b n : Int) (T : TypeId) : RdI ((w.alloc x).alloc (.cells #[.int .i64 o, .int .i64 d, .int .i64 a, .int .i64 b, .int .u32 n] T)) (w.heap.size + 2) (some ⟨w.heap.size + 1, 0, none⟩) [⟨o, d, a, b, n⟩] := fun _ => by
  have h := Box5.new (w.alloc x) (.int .i64 o) (.int .i64 d) (.int .i64 a) (.int .i64 b) (.int .u32 n) T
  simp only [World.size_alloc] at h
  refine ⟨_, 0, rfl, by omega, fun k hk => ?_⟩
  obtain rfl : k = 0 := by simp at hk; omega
  exact h
set_option maxRecDepth 100000 in
set_option maxHeartbeats 1000000 in
theorem encode_any (o d a b n : Int) (n0 : 0 ≤ n) (n1 : n < 4294967296) (w : World) :
    Calls Tryd.prog 12 #[hv o d a b n] w fun e w' => Below w.heap.size w w' ∧ (okH o d a b n = true → ∃ A c, e = .returned (.tuple #[.slice A 8 c, .int .i64 0]) ∧ w'.ownsRow w.heap.size 5 1 (.slice A 8 c) 8 (bv (ehV o d a b n)))
      ∧ (okH o d a b n = false → e = .returned (.tuple #[.slice none 0 0, .int .i64 12])) := by
  have hj := join_any (some ⟨w.heap.size + 1, 0, none⟩) 1 [⟨o, d, a, b, n⟩] (by simp) (by intro p hp; obtain rfl := List.mem_singleton.1 hp; exact ⟨n0, n1⟩)
    ((w.alloc (.cells #[.int .i64 o, .int .i64 d, .int .i64 a, .int .i64 b, .int .u32 n] 24)).alloc (.cells #[.int .i64 o, .int .i64 d, .int .i64 a, .int .i64 b, .int .u32 n] 24))
    (by have := box_rdI w (.cells #[.int .i64 o, .int .i64 d, .int .i64 a, .int .i64 b, .int .u32 n] 24) o d a b n 24; simpa using this)
  have HJ := Lib.hid hj
  have HB2 := Lib.hid (below_two w (.cells #[.int .i64 o, .int .i64 d, .int .i64 a, .int .i64 b, .int .u32 n] 24) (.cells #[.int .i64 o, .int .i64 d, .int .i64 a, .int .i64 b, .int .u32 n] 24))
  clear hj
  go_enter Tryd.func12, Tryd.ntmps12
  go_wp2_with fail
  refine HJ.out.mono ?_
  rintro e w1 ⟨hb, h1, h2⟩
  simp only [List.mem_singleton, forall_eq, Hi.ok] at h1 h2
  have hB := Lib.hid (HB2.out.trans (hb.mono (by simp; omega)))
  cases hk : okH o d a b n
  · obtain rfl := h2 hk
    clear h1 h2 hb
    go_wp2_with fail
    go_ret2
    exact ⟨hB.out, fun h => absurd (hk.symm.trans h) (by decide), fun _ => rfl⟩
  · obtain ⟨A, c, rfl, ho⟩ := h1 hk
    have HO := Lib.hid ho
    clear h1 h2 hb ho
    go_wp2_with fail
    go_ret2
    refine ⟨hB.out, fun _ => ⟨A, c, rfl, ?_⟩, fun h => absurd (hk.symm.trans h) (by decide)⟩
    have h := own_mono HO.out (B' := w.heap.size) (by simp; omega)
    simpa [encs, Hi.enc] using h
end Go.Proofs.YthobedekeebadaaDoor

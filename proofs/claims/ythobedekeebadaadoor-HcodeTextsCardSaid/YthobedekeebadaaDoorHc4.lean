/-
  hcode.Join, hcode.Encode: A CONTRACT EACH.
-/
import Derived.Test.YthobedekeebadaaDoorHb
import Derived.Test.YthobedekeebadaaDoorHc3
import Derived.Test.YthobedekeebadaaDoorAppR
namespace Go.Proofs.YthobedekeebadaaDoor
open Go.RowKit
set_option linter.unusedSimpArgs false
set_option linter.unusedVariables false

theorem Tryd.info_u8 : (Tryd.prog.info? 5).map (fun i => (i.zero, i.size, i.bytes)) = some (some (.int .u8 0), 1, 1) := by kernel_rfl
theorem Tryd.info_hi : (Tryd.prog.info? 24).map (fun i => (i.zero, i.size, i.bytes)) = some (some (hv 0 0 0 0 0), 5, 40) := by kernel_rfl

/-- what Join answers of instructions -/
def Joined (L : List Hi) (w : World) (e : Ending) (w' : World) : Prop :=
  Below w.heap.size w w' ∧ ((∀ p ∈ L, p.ok = true) → ∃ A c, e = .returned (.tuple #[.slice A (8 * L.length) c, .int .i64 0]) ∧ w'.ownsRow w.heap.size 5 1 (.slice A (8 * L.length) c) (8 * L.length) (bv (encs L)))
    ∧ (∀ p ∈ L, p.ok = false → e = .returned (.tuple #[.slice none 0 0, .int .i64 12]))

set_option maxRecDepth 100000 in
set_option maxHeartbeats 2000000 in
theorem join_any (A : Option Addr) (c : Nat) (L : List Hi) (hl : L.length ≤ 4398046511104) (hN : ∀ p ∈ L, p.fit) (w : World) (hr : RdI w w.heap.size A L) :
    Calls Tryd.prog 22 #[.slice A L.length c] w (Joined L w) := by
  have HR := Lib.hid hr
  have HN := Lib.hid hN
  clear hr hN
  go_enter Tryd.func22, Tryd.ntmps22
  go_wp2_with fail
  go_loopw [4, 9] (fun v i wr => ∃ (k : Nat) (A' : Option Addr) (c' : Nat), v = .slice A' (8 * k) c' ∧ i = .int .i64 k ∧ k ≤ L.length ∧ Hid (∀ p ∈ L.take k, p.ok = true) ∧ Hid (wr.ownsRow w.heap.size 5 1 (.slice A' (8 * k) c') (8 * k) (bv (encs (L.take k)))) ∧ Hid (Below w.heap.size w wr)) (fun _ i _ => L.length - (intOf i).toNat)
  case atStart => exact ⟨0, none, 0, rfl, rfl, by omega, by intro p hp; simp at hp, World.ownsRow_nil _ _ _ _, Below.refl _ _⟩
  case round =>
    obtain ⟨k, A', c', rfl, rfl, hk, hL, hO, hB⟩ := hrel
    by_cases hend : k < L.length
    · obtain ⟨g, off, rfl, hg, hcell⟩ := HR.out (by omega)
      obtain ⟨c1, c2, c3, c4, c5⟩ := hcell k hend
      have d1 := (hB.out.cell (p := ⟨g, _, none⟩) hg).trans c1
      have d2 := (hB.out.cell (p := ⟨g, _, none⟩) hg).trans c2
      have d3 := (hB.out.cell (p := ⟨g, _, none⟩) hg).trans c3
      have d4 := (hB.out.cell (p := ⟨g, _, none⟩) hg).trans c4
      have d5 := (hB.out.cell (p := ⟨g, _, none⟩) hg).trans c5
      have hz := hB.out.size
      clear hcell c1 c2 c3 c4 c5
      have htk : L.take (k + 1) = L.take k ++ [L[k]] := List.take_succ_eq_append_getElem hend
      obtain ⟨m0, m1⟩ := HN.out L[k] (List.getElem_mem hend)
      have hmem : L[k] ∈ L := List.getElem_mem hend
      have HM := Lib.hid hmem
      have HT := Lib.hid htk
      clear hmem htk
      generalize hop : L[k] = q at *
      obtain ⟨o, d, a, b, n⟩ := q
      simp only at d1 d2 d3 d4 d5 m0 m1
      have HOP := Lib.hid hop
      clear hop
      have hB0 := Lib.hid (Box5.new wr (.int .i64 o) (.int .i64 d) (.int .i64 a) (.int .i64 b) (.int .u32 n) 24)
      have hB2 := Lib.hid ((Below.refl wr.heap.size wr).alloc (Nat.le_refl _) (.cells #[.int .i64 o, .int .i64 d, .int .i64 a, .int .i64 b, .int .u32 n] 24))
      have hr := right_any o d a b n
      cases hok : okH o d a b n
      · rw [hok] at hr
        have HRT := Lib.hid hr
        have HOK := Lib.hid hok
        clear hr hok
        go_wp2_with (go_at_call 19; refine (HRT.out _).mono ?_; rintro e w1 ⟨rfl, hb⟩; have B1 := Lib.hid (hB2.out.trans (hb.mono (by simp))); clear hb)
        go_ret2
        exact ⟨hB.out.trans (B1.out.mono hz), fun h => absurd (h _ HM.out) (by simp [Hi.ok, HOK.out]), fun p hp hpn => rfl⟩
      · rw [hok] at hr
        have HRT := Lib.hid hr
        have HOK := Lib.hid hok
        have HE := Lib.hid (bv_enc o d a b n hok m0 m1)
        obtain ⟨⟨o0, o1⟩, ⟨e0, e1⟩, ⟨a0, a1⟩, ⟨b0, b1⟩⟩ := okH_bd hok
        clear hr hok
        go_wp2_with (first
          | (go_at_call 19; refine (HRT.out _).mono ?_; rintro e w1 ⟨rfl, hb⟩; obtain ⟨c0, c1, c2, c3, c4⟩ := hB0.out.keep hb (by simp); have B1 := Lib.hid (hB2.out.trans (hb.mono (by simp))); have HO1 := Lib.hid ((own_below hO.out B1.out).alloc (.cells #[.int .u8 o, .int .u8 d, .int .u8 a, .int .u8 b, .int .u8 (n % 256), .int .u8 (n / 256 % 256), .int .u8 (n / 65536 % 256), .int .u8 (n / 16777216)] 5)); have hz1 : wr.heap.size < w1.heap.size := (by have := hb.size; simp at this; omega); clear hb)
          | (at_builtin
             refine wpList_app rfl (.tmp 16) (.tmp 44) _ rfl w.heap.size 5 _ 1 1 Tryd.underlying28 Tryd.info_u8 rfl (by omega) (.slice A' (8 * k) c') (8 * k) (bv (encs (L.take k))) rfl HO1.out w1.heap.size 8 8 _ _ _ rfl (heap_alloc_new _ _) rfl (by simp [Value.oneCell']) (by omega) (by unfold maxLen; omega) (by omega) (by simp; omega) ?_
             intro g2 cap2 w2 hext2
             have HX := Lib.hid hext2
             clear hext2))
        go_roundw
        case rel =>
          refine ⟨k + 1, some ⟨g2, 0, none⟩, cap2, by rw [show 8 * (k + 1) = 8 * k + 8 by omega], by go_num, by omega, ?_, ?_, ?_⟩
          · apply Lib.hid; rw [HT.out]; intro p hp
            rcases List.mem_append.1 hp with hp | hp
            · exact hL.out p hp
            · obtain rfl := List.mem_singleton.1 hp; exact HOK.out
          · apply Lib.hid; rw [HT.out, encs_append, bv_append, show 8 * (k + 1) = 8 * k + 8 by omega]
            have h := HX.out.own
            have e2 : bv (encs [{ o := o, d := d, a := a, b := b, n := n }]) = [.int .u8 o, .int .u8 d, .int .u8 a, .int .u8 b, .int .u8 (n % 256), .int .u8 (n / 256 % 256), .int .u8 (n / 65536 % 256), .int .u8 (n / 16777216)] := by
              rw [encs_cons, encs_nil, List.append_nil]; exact HE.out
            rw [e2]; exact h
          · exact Lib.hid ((hB.out.trans ((B1.out.mono hz).alloc (by omega) _)).trans (HX.out.below (by simp; omega) HO1.out))
        case measure => simp [intOf]; omega
    · have hkl : k = L.length := by omega
      subst hkl
      go_wp2_with fail
      go_ret2
      have h2 := hL.out
      have h3 := hO.out
      rw [List.take_length] at h2 h3
      exact ⟨hB.out, fun _ => ⟨A', c', by simp, h3⟩, fun p hp hpn => absurd (h2 p hp) (by simp [hpn])⟩
end Go.Proofs.YthobedekeebadaaDoor

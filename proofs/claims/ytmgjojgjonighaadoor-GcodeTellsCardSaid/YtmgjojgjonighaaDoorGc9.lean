/-
  gcode.All, gcode.Join: A CONTRACT EACH.
-/
import Derived.Test.YtmgjojgjonighaaDoorGc8
namespace Go.Proofs.YtmgjojgjonighaaDoor
open Go.RowKit
set_option linter.unusedSimpArgs false
set_option linter.unusedVariables false

theorem Tryd.info_instr : (Tryd.prog.info? 26).map (fun i => (i.zero, i.size, i.bytes)) = some (some (.agg #[.int .i64 0, .int .u32 0]), 2, 16) := by kernel_rfl

/-- what All answers of bytes -/
def Alled (l : List UInt8) (w : World) (e : Ending) (w' : World) : Prop :=
  ∃ (L : List (Int × Int)) (a : Nat) (A : Option Addr) (c : Nat), e = .returned (.tuple #[.slice A L.length c, .int .i64 a]) ∧ a ≤ l.length ∧ (∀ p ∈ L, Ok2 p) ∧ encs L = l.take a ∧ dcE (l.drop a) ≠ 0
    ∧ w'.ownsRow w.heap.size 26 2 (.slice A L.length c) L.length (ivs L) ∧ Below w.heap.size w w'

set_option maxRecDepth 100000 in
set_option maxHeartbeats 1000000 in
theorem all_any (A : Option Addr) (c : Nat) (l : List UInt8) (hl : l.length ≤ c) (hc : c ≤ maxLen) (hA : A = none → c = 0) (h42 : l.length ≤ 4398046511104) (w : World) (hr : Rd w w.heap.size A (bv l)) :
    Calls Tryd.prog 17 #[.slice A l.length c] w (Alled l w) := by
  unfold maxLen at hc
  have HR := Lib.hid hr
  have HA := Lib.hid hA
  clear hr hA
  go_enter Tryd.func17, Tryd.ntmps17
  go_wp2_with fail
  go_loopw [4, 5] (fun v i wr => ∃ (L : List (Int × Int)) (a : Nat) (A' : Option Addr) (c' : Nat), v = .slice A' L.length c' ∧ i = .int .i64 a ∧ a ≤ l.length ∧ Hid (∀ p ∈ L, Ok2 p) ∧ Hid (encs L = l.take a) ∧ Hid (wr.ownsRow w.heap.size 26 2 (.slice A' L.length c') L.length (ivs L)) ∧ Hid (Below w.heap.size w wr)) (fun _ i _ => l.length - (intOf i).toNat)
  case atStart => exact ⟨[], 0, none, 0, rfl, rfl, by omega, by intro p hp; simp at hp, by simp [encs, Hid], World.ownsRow_nil _ _ _ _, Below.refl _ _⟩
  case round =>
    obtain ⟨L, a, A', c', rfl, rfl, ha, hL, hE, hO, hB⟩ := hrel
    by_cases hend : a < l.length
    · obtain ⟨g, off, rfl, hg, hcell⟩ := HR.out (by rw [bv_length]; omega)
      clear hcell
      have hca : ¬ c = a := by omega
      have hz := hB.out.size
      have hd := decode_any (some ⟨g, off + a, none⟩) (c - a) (l.drop a) (by rw [List.length_drop]; omega) (by unfold maxLen; omega) wr (by
        have h1 := ((HR.out.below hB.out).more hz).drop a
        have e : (bv l).drop a = bv (l.drop a) := by simp [bv, List.map_drop]
        rw [← e]; exact h1)
      rw [List.length_drop] at hd
      by_cases h0 : dcE (l.drop a) = 0
      · obtain ⟨q1, q2, q3, q4, q5, q6⟩ := dc_ec _ h0
        rw [h0] at hd
        have hE' : encs (L ++ [(dcO (l.drop a), dcN (l.drop a))]) = l.take (a + (dcS (l.drop a)).toNat) := by
          rw [encs_append, hE.out, encs_cons, encs_nil, List.append_nil, q4, List.take_add]
        have hL' : ∀ p ∈ L ++ [(dcO (l.drop a), dcN (l.drop a))], Ok2 p := by
          intro p hp
          rcases List.mem_append.1 hp with hp | hp
          · exact hL.out p hp
          · obtain rfl := List.mem_singleton.1 hp; exact ⟨q1, q2, q3⟩
        have hI : ivs (L ++ [(dcO (l.drop a), dcN (l.drop a))]) = ivs L ++ [.int .i64 (dcO (l.drop a)), .int .u32 (dcN (l.drop a))] := by rw [ivs_append]; simp [ivs, iv]
        rw [List.length_drop] at q5
        have hll : (encs L).length = a := by rw [hE.out, List.length_take]; omega
        have hLa := (encs_len L hL.out).1
        rw [hll] at hLa
        obtain ⟨sz, hsz⟩ : ∃ sz : Nat, dcS (l.drop a) = sz := ⟨(dcS (l.drop a)).toNat, by omega⟩
        rw [hsz] at hd q5 q6 hE'
        simp only [Int.toNat_natCast] at q5 hE'
        clear hsz hll q1 q4 h0
        generalize dcO (l.drop a) = O at *
        generalize dcN (l.drop a) = N at *
        have HD := Lib.hid hd
        have HE2 := Lib.hid hE'
        have HL2 := Lib.hid hL'
        have HI := Lib.hid hI
        clear hd hE' hL' hI
        go_wp2_with (first
          | (go_at_call 18; refine HD.out.mono ?_; rintro e w1 ⟨rfl, hb1⟩
             have HB1 := Lib.hid hb1
             have own1 := own_below hO.out hb1
             have HO1 := Lib.hid ((own1.alloc (.cells #[.int .i64 O, .int .u32 N] 26)).alloc (.cells #[.int .i64 O, .int .u32 N] 26))
             have hz1 := hb1.size
             clear hb1 own1)
          | (at_builtin
             refine wpList_app rfl (.tmp 21) (.tmp 23) _ rfl w.heap.size 26 _ 2 16 Tryd.underlying35 Tryd.info_instr rfl (by omega) (.slice A' L.length c') L.length (ivs L) rfl HO1.out (w1.heap.size + 1) 1 1 _ _ _ rfl (by simpa using heap_alloc_new (w1.alloc (.cells #[.int .i64 O, .int .u32 N] 26)) (.cells #[.int .i64 O, .int .u32 N] 26)) rfl (by simp [Value.oneCell']) (by omega) (by unfold maxLen; omega) (by omega) (by simp; omega) ?_
             intro g2 cap2 w2 hext2
             have HX2 := Lib.hid hext2
             have HB2 := Lib.hid ((hB.out.trans ((HB1.out.mono hz).alloc (by omega) (.cells #[.int .i64 O, .int .u32 N] 26))).alloc (by simp; omega) (.cells #[.int .i64 O, .int .u32 N] 26))
             clear hext2))
        go_roundw
        case rel =>
          refine ⟨L ++ [(O, N)], a + sz, some ⟨g2, 0, none⟩, cap2, by simp, by go_num, by omega, HL2, HE2, ?_, ?_⟩
          · have h := HX2.out.own
            apply Lib.hid
            rw [HI.out]
            simpa using h
          · exact Lib.hid (HB2.out.trans (HX2.out.below (by simp; omega) HO1.out))
        case measure => simp [intOf]; omega
      · have hne : (dcE (l.drop a) != 0) = true := by simpa using h0
        have H0 := Lib.hid h0
        clear h0
        generalize hEE : dcE (l.drop a) = EE at *
        generalize dcO (l.drop a) = O at *
        generalize dcN (l.drop a) = N at *
        generalize dcS (l.drop a) = S1 at *
        have HEE := Lib.hid hEE
        have HD := Lib.hid hd
        clear hEE hd
        go_wp2_with (go_at_call 18; refine HD.out.mono ?_; rintro e w1 ⟨rfl, hb1⟩; have HB1 := Lib.hid hb1; have HO1 := Lib.hid (own_below hO.out hb1); have hz1 := hb1.size; clear hb1)
        go_ret2
        exact ⟨L, a, A', c', by simp, ha, hL.out, hE.out, by rw [HEE.out]; exact H0.out, HO1.out.alloc _, (hB.out.trans (HB1.out.mono hz)).alloc (by omega) _⟩
    · have hal : a = l.length := by omega
      subst hal
      have hz := hB.out.size
      have hdr : dcE (l.drop l.length) ≠ 0 := by simp [dcE]
      have HDR := Lib.hid hdr
      clear hdr hend
      by_cases hca : c = l.length
      · obtain rfl := hca
        rcases A with _ | ⟨gb, gf, gs⟩
        all_goals
          go_wp2_with (go_at_call 18; refine (decode_nil _ _ _).mono ?_; rintro e w1 ⟨rfl, hb1⟩; have HB1 := Lib.hid hb1; have HO1 := Lib.hid (own_below hO.out hb1); have hz1 := hb1.size; clear hb1)
          go_ret2
          exact ⟨L, _, A', c', by simp, ha, hL.out, hE.out, HDR.out, HO1.out.alloc _, (hB.out.trans (HB1.out.mono hz)).alloc (by omega) _⟩
      · rcases A with _ | ⟨gb, gf, gs⟩
        · exact absurd (HA.out rfl) (by omega)
        · go_wp2_with (go_at_call 18; refine (decode_nil _ _ _).mono ?_; rintro e w1 ⟨rfl, hb1⟩; have HB1 := Lib.hid hb1; have HO1 := Lib.hid (own_below hO.out hb1); have hz1 := hb1.size; clear hb1)
          go_ret2
          exact ⟨L, _, A', c', by simp, ha, hL.out, hE.out, HDR.out, HO1.out.alloc _, (hB.out.trans (HB1.out.mono hz)).alloc (by omega) _⟩

/-- instructions as a slice holds them, below block B -/
def RdI (w : World) (B : Nat) (A : Option Addr) (L : List (Int × Int)) : Prop :=
  0 < L.length → ∃ g off, A = some ⟨g, off, none⟩ ∧ g < B ∧ ∀ k (h : k < L.length), w.cell? ⟨g, off + k * 2, none⟩ = some (.int .i64 L[k].1) ∧ w.cell? ⟨g, off + k * 2 + 1, none⟩ = some (.int .u32 L[k].2)
theorem RdI.keep {w w' : World} {B : Nat} {A : Option Addr} {L : List (Int × Int)} (h : RdI w B A L) (hb : Below B w w') : RdI w' B A L := fun hn => by
  obtain ⟨g, off, e, hg, hc⟩ := h hn
  exact ⟨g, off, e, hg, fun k hk => ⟨(hb.cell (p := ⟨g, _, none⟩) hg).trans (hc k hk).1, (hb.cell (p := ⟨g, _, none⟩) hg).trans (hc k hk).2⟩⟩
theorem RdI.of_own {w : World} {B c : Nat} {e : TypeId} {A : Option Addr} {L : List (Int × Int)} (h : w.ownsRow B e 2 (.slice A L.length c) L.length (ivs L)) : RdI w w.heap.size A L := fun hn => by
  rcases h.2 with ⟨h1, h2⟩ | ⟨g, cap, cur, h1, h2, h3, h4, h5, h6, h7⟩
  · omega
  · simp only [Value.slice.injEq] at h1
    obtain ⟨rfl, _, _⟩ := h1
    refine ⟨g, 0, rfl, (Array.getElem?_eq_some_iff.1 h3).1, fun k hk => ?_⟩
    have hadd : ∀ j, (⟨g, 0, none⟩ : Addr).add j = ⟨g, j, none⟩ := by intro j; unfold Addr.add; split <;> simp_all
    obtain ⟨a1, a2⟩ := ivs_at L k hk
    have b1 := h.cells (g := g) rfl _ _ a1
    have b2 := h.cells (g := g) rfl _ _ a2
    rw [hadd] at b1 b2
    rw [show 0 + k * 2 = 2 * k by omega]
    exact ⟨b1, b2⟩
/-- what Join answers of instructions -/
def Joined (L : List (Int × Int)) (w : World) (e : Ending) (w' : World) : Prop :=
  Below w.heap.size w w' ∧ ((∀ p ∈ L, okV p.1 p.2 = true) → ∃ A c, e = .returned (.tuple #[.slice A (encs L).length c, .int .i64 0]) ∧ w'.ownsRow w.heap.size 5 1 (.slice A (encs L).length c) (encs L).length (bv (encs L)))
    ∧ (∀ p ∈ L, okV p.1 p.2 = false → e = .returned (.tuple #[.slice none 0 0, .int .i64 12]))

set_option maxRecDepth 100000 in
set_option maxHeartbeats 1000000 in
theorem join_any (A : Option Addr) (c : Nat) (L : List (Int × Int)) (hl : L.length ≤ 4398046511104) (hN : ∀ p ∈ L, 0 ≤ p.2 ∧ p.2 < 4294967296) (w : World) (hr : RdI w w.heap.size A L) :
    Calls Tryd.prog 16 #[.slice A L.length c] w (Joined L w) := by
  have HR := Lib.hid hr
  have HN := Lib.hid hN
  clear hr hN
  go_enter Tryd.func16, Tryd.ntmps16
  go_wp2_with fail
  go_loopw [4, 9] (fun v i wr => ∃ (k : Nat) (A' : Option Addr) (c' n : Nat), v = .slice A' n c' ∧ i = .int .i64 k ∧ k ≤ L.length ∧ Hid (n = (encs (L.take k)).length) ∧ Hid (∀ p ∈ L.take k, okV p.1 p.2 = true) ∧ Hid (wr.ownsRow w.heap.size 5 1 (.slice A' n c') n (bv (encs (L.take k)))) ∧ Hid (Below w.heap.size w wr)) (fun _ i _ => L.length - (intOf i).toNat)
  case atStart => exact ⟨0, none, 0, 0, rfl, rfl, by omega, by simp [encs, Hid], by intro p hp; simp at hp, World.ownsRow_nil _ _ _ _, Below.refl _ _⟩
  case round =>
    obtain ⟨k, A', c', n, rfl, rfl, hk, hn, hL, hO, hB⟩ := hrel
    by_cases hend : k < L.length
    · obtain ⟨g, off, rfl, hg, hcell⟩ := HR.out (by omega)
      obtain ⟨c1, c2⟩ := hcell k hend
      have d1 := (hB.out.cell (p := ⟨g, _, none⟩) hg).trans c1
      have d2 := (hB.out.cell (p := ⟨g, _, none⟩) hg).trans c2
      have hz := hB.out.size
      clear hcell c1 c2
      have htk : L.take (k + 1) = L.take k ++ [L[k]] := List.take_succ_eq_append_getElem hend
      obtain ⟨m0, m1⟩ := HN.out L[k] (List.getElem_mem hend)
      have hOK : ∀ p ∈ L.take k, Ok2 p := fun p hp => ⟨hL.out p hp, HN.out p (List.mem_of_mem_take hp)⟩
      have hen := (encs_len _ hOK).2
      rw [List.length_take, ← hn.out] at hen
      have hmem : L[k] ∈ L := List.getElem_mem hend
      have HM := Lib.hid hmem
      have HT := Lib.hid htk
      clear hOK hmem htk
      generalize hop : L[k] = q at *
      obtain ⟨op, nn⟩ := q
      simp only at d1 d2 m0 m1
      have HOP := Lib.hid hop
      clear hop
      have hB0 := Lib.hid (box2_new wr (.int .i64 op) (.int .u32 nn) 26)
      have hr := right_any op nn m0
      cases hok : okV op nn
      · rw [hok] at hr
        have HRT := Lib.hid hr
        have HOK := Lib.hid hok
        clear hr hok
        go_wp2_with (go_at_call 23; refine (HRT.out _).mono ?_; rintro e w1 ⟨rfl, hb⟩; obtain ⟨e0, e1, e2, e3⟩ := box2_keep hB0.out hb; clear hb)
        go_ret2
        exact ⟨hB.out.trans (e3.mono hz), fun h => absurd (h _ HM.out) (by simp [HOK.out]), fun p hp hpn => rfl⟩
      · rw [hok] at hr
        have HRT := Lib.hid hr
        have HOK := Lib.hid hok
        clear hr hok
        go_wp2_with (first
          | (go_at_call 23; refine (HRT.out _).mono ?_; rintro e w1 ⟨rfl, hb⟩; obtain ⟨e0, e1, e2, e3⟩ := box2_keep hB0.out hb; have HO1 := Lib.hid (own_below hO.out e3); clear hb)
          | (go_at_call 38; refine (extend_any w.heap.size A' n c' _ op nn HOK.out m0 m1 _ (by omega) (by omega) HO1.out).mono ?_; rintro e w2 ⟨v', rfl, hext⟩; have HX := Lib.hid hext; clear hext))
        obtain ⟨A2, c2, rfl⟩ := own_form HX.out.own
        go_roundw
        case rel =>
          refine ⟨k + 1, A2, c2, n + (ecV op nn).length, rfl, by go_num, by omega, ?_, ?_, ?_, ?_⟩
          · apply Lib.hid; rw [HT.out, encs_append, List.length_append, ← hn.out]; simp [encs]
          · apply Lib.hid; rw [HT.out]; intro p hp
            rcases List.mem_append.1 hp with hp | hp
            · exact hL.out p hp
            · obtain rfl := List.mem_singleton.1 hp; exact HOK.out
          · apply Lib.hid; rw [HT.out, encs_append, bv_append]
            have h := HX.out.own
            simpa [encs] using h
          · exact Lib.hid ((hB.out.trans (e3.mono hz)).trans (HX.out.below (by omega) HO1.out))
        case measure => simp [intOf]; omega
    · have hkl : k = L.length := by omega
      subst hkl
      go_wp2_with fail
      go_ret2
      have h1 := hn.out
      have h2 := hL.out
      have h3 := hO.out
      rw [List.take_length] at h1 h2 h3
      subst h1
      exact ⟨hB.out, fun _ => ⟨A', c', by simp, h3⟩, fun p hp hpn => absurd (h2 p hp) (by simp [hpn])⟩
end Go.Proofs.YtmgjojgjonighaaDoor

/-
  innkeeperlaw7.RamPlays returns true: its walk.
-/
import Derived.Test.YtgohmchodgoceaaDo
import Derived.Test.YtgohmchodgoceaaRowQ
import Derived.Test.YtgohmchodgoceaaWi1
import Derived.Outline
namespace Go.Proofs.Ytgohmchodgoceaa
open Go.RowKit
set_option linter.unusedSimpArgs false
set_option linter.unusedVariables false

/-- what the caller brought is out of reach -/
theorem RdO.of_rd {w0 w : World} {B : Nat} {p : Bl} {gb gt : Nat} {X : Rm} {F : Nat → Int} {G : Nat → Bool} {A : Option Addr} {xs : List Value} (hd : Dual w0 B p gb gt w X F G) (hB : w0.heap.size = B) (h : Rd w0 w0.heap.size A xs) : RdO w p gb gt A xs := fun hn => by
  obtain ⟨b, off, e, h1, h2⟩ := h hn
  obtain ⟨f1, f2, f3, f4, f5⟩ := hd.d.f
  have l1 := hd.lb
  have l2 := hd.lt
  exact ⟨b, off, e, ⟨by omega, by omega, by omega, by omega, by omega⟩, by omega, by omega, by have := hd.d.b.size; omega, fun j u hu => (hd.d.b.cell (p := ⟨b, off + j, none⟩) (by show b < B; omega)).trans (h2 j u hu)⟩
theorem RdO.of_row {w : World} {p : Bl} {gb gt g n : Nat} {F : Nat → Int} (h : IsB w g n F) (o : p.Off g) (h1 : gb ≠ g) (h2 : gt ≠ g) : RdO w p gb gt (some ⟨g, 0, none⟩) (ub (rowL F n)) := fun _ =>
  ⟨g, 0, rfl, o, h1, h2, IsC.lt h, fun j u hu => by
    unfold rowL at hu
    rw [ub_range, range_get] at hu
    split at hu
    · rename_i hj
      cases hu
      rw [Nat.zero_add]
      exact IsC.cell h j hj
    · cases hu⟩
theorem do_at {p : Bl} {X : Rm} {w0 : World} {B gb gt n N : Nat} (hX : X.n = n) (hN : n * 64 = N) (k v : Int) (a : Nat) (A : Option Addr) (len cap : Nat) (L : List Int) (ha : a < 4294967296) (hv : 0 ≤ v ∧ v < 4294967296) (hlen : len = L.length) (hcl : len ≤ 140737488355328) (hL : ∀ x ∈ L, 0 ≤ x ∧ x < 256) (w : World) (hB : B ≤ w0.heap.size) (hd : Dual w0 B p gb gt w X X.b X.tu) (hR : RdO w p gb gt A (ub L)) :
    Calls Try.prog 11 #[.pointer (some ⟨p.m, 0, none⟩), .pointer (some ⟨p.h, 0, none⟩), .slice (some ⟨gb, 0, none⟩) N N, .slice (some ⟨gt, 0, none⟩) n n, .agg #[.int .i64 k, .int .u32 (a : Int), .int .u32 v, .slice A len cap]] w (Done w0 B p gb gt n) := by
  subst hX
  subst hN
  exact do_any k v a A len cap L ha hv hlen hcl hL w hB hd hR
theorem szF_bd {l : List Int} (hl : ∀ x ∈ l, 0 ≤ x ∧ x < 256) (j : Nat) : 0 ≤ szF l j ∧ szF l j < 256 := by
  unfold szF
  by_cases h : j < l.length
  · rw [List.getD_eq_getElem?_getD, List.getElem?_eq_getElem h]; exact hl _ (List.getElem_mem h)
  · rw [List.getD_eq_getElem?_getD, List.getElem?_eq_none (by omega)]; exact ⟨by decide, by decide⟩
theorem alike_at {p : Bl} {X : Rm} {w0 : World} {B gb gt n N : Nat} (hX : X.n = n) (hN : n * 64 = N) (w : World) (hB : B ≤ w0.heap.size) (hd : Dual w0 B p gb gt w X X.b X.tu) :
    Calls Try.prog 12 #[.pointer (some ⟨p.m, 0, none⟩), .slice (some ⟨gb, 0, none⟩) N N, .slice (some ⟨gt, 0, none⟩) n n] w fun e w' => e = .returned (.bool true) ∧ Below w.heap.size w w' := by
  subst hX
  subst hN
  exact alike_any w hB hd
set_option maxRecDepth 100000 in
set_option maxHeartbeats 8000000 in
theorem ramPlays_walk (a0 : Int) (A1 : Option Addr) (len1 cap1 : Nat) (L1 : List Aq) (w : World) (w0 : (Lit.int .i64 a0).wf = true) (w1 : RowQ w A1 len1 cap1 L1) :
    Calls Try.prog 4 #[.int .i64 a0, .slice A1 len1 cap1] w fun e w' => e = .returned (.bool true) ∧ Below w.heap.size w w' := by
  obtain ⟨hlen, hl0, hc0, _, hrd, hin⟩ := w1
  obtain ⟨b0, b1⟩ := i64_of_wf w0
  have hwd := within_one a0 8 b0 b1 (by omega) (by omega)
  obtain ⟨y0, y1⟩ := wdV_bd a0 1 8 (by omega)
  generalize wdV a0 1 8 = n at *
  obtain ⟨n, rfl⟩ := Int.eq_ofNat_of_zero_le (show 0 ≤ n by omega)
  have n1 : 1 ≤ n := by omega
  have n8 : n ≤ 8 := by omega
  obtain ⟨N, hN⟩ : ∃ N, n * 64 = N := ⟨_, rfl⟩
  have hNI : (n : Int) * 64 = (N : Int) := by omega
  have HN := Lib.hid hN
  have hN1 : 64 ≤ N := by omega
  have hN2 : N ≤ 512 := by omega
  have HWD := Lib.hid hwd
  have HRD := Lib.hid hrd
  have HIN := Lib.hid hin
  have HLEN := Lib.hid hlen
  have hb0 : len1 ≤ 9223372036854775807 := by unfold maxLen at hc0; omega
  have hmb := make_u8 .i64 N (by omega)
  have hmt := make_bool .i64 n (by omega)
  have HZB := Lib.hid (new_u8 N)
  have HZT := Lib.hid (new_bool n)
  generalize madeCells #[Value.int .u8 0] N = ZB at *
  generalize madeCells #[Value.bool false] n = ZT at *
  clear hrd hin hlen hc0 hl0 w0 b0 b1 hwd y0 y1 hN
  go_enter Try.func4, Try.ntmps4
  go_wp2_with (first
    | (go_at_call 16; refine (HWD.out _).mono ?_; rintro e w' ⟨rfl, rfl⟩)
    | (go_at_call 10; refine (freshM_any n n1 (by omega) w).mono ?_; rintro e wa ⟨p, rfl, hd⟩; have HD := Lib.hid hd; clear hd))
  have hzb : Below wa.heap.size wa (wa.alloc (.cells ZB 5)) := (Below.refl _ _).alloc (Nat.le_refl _) _
  have hzt : Below (wa.heap.size + 1) (wa.alloc (.cells ZB 5)) ((wa.alloc (.cells ZB 5)).alloc (.cells ZT 4)) := (Below.refl _ _).alloc (by simp) _
  have hs1 : (wa.alloc (.cells ZB 5)).heap.size = wa.heap.size + 1 := by simp
  have hDD : Dual w w.heap.size p wa.heap.size (wa.heap.size + 1) ((wa.alloc (.cells ZB 5)).alloc (.cells ZT 4)) (rm0 n) (rm0 n).b (rm0 n).tu := by
    have hdb := HD.out.keep HD.out.b.size hzb
    have hdt := hdb.keep (by have := HD.out.b.size; omega) (by rw [hs1]; exact hzt)
    have hT := HZT.out (wa.alloc (.cells ZB 5))
    rw [hs1] at hT
    have := HD.out.b.size
    refine ⟨hdt, ?_, hT, HD.out.m.off (Nat.le_refl _), HD.out.m.off (by omega), by omega, by omega, by omega, fun i hi _ _ _ => hdt.b.block i hi⟩
    show IsB _ _ (n * 64) _
    rw [HN.out]
    exact IsC.below (HZB.out wa) hzt (by omega)
  have HDD := Lib.hid hDD
  clear HD hzb hzt hs1 hDD HZB HZT
  generalize (wa.alloc (.cells ZB 5)).alloc (.cells ZT 4) = wb at *
  generalize hgt : wa.heap.size + 1 = gt at *
  generalize wa.heap.size = gb at *
  generalize hG : w.heap.size = B at *
  have HG := Lib.hid hG
  have HGL := Lib.hid (show B ≤ w.heap.size by omega)
  clear hgt hG
  go_loopw [10] (fun i wr => ∃ (k : Nat) (X : Rm), k ≤ 50 ∧ k ≤ len1 ∧ i = .int .i64 k ∧ Hid (X.n = n) ∧ Hid (Dual w B p gb gt wr X X.b X.tu)) (fun i _ => 50 - (intOf i).toNat)
  case atStart => exact ⟨0, rm0 n, by omega, by omega, rfl, Lib.hid rfl, HDD⟩
  case round =>
    clear HDD
    obtain ⟨k, X, hk, hk1, rfl, hX, hD⟩ := hrel
    have hzr := hD.out.size HGL.out
    by_cases hlt : k < len1 ∧ k < 50
    · obtain ⟨h1, h2⟩ := hlt
      have hkl : k < L1.length := by have := HLEN.out; omega
      obtain ⟨b, off, rfl, hbg, hc⟩ := HRD.out (by omega)
      have hin := HIN.out _ (List.getElem_mem hkl)
      have hwB : w.heap.size = B := HG.out
      have hcc := fun j u (h : (L1[k]).cs[j]? = some u) => (hD.out.d.b.cell (p := ⟨b, off + k * 4 + j, none⟩) (by show b < B; omega)).trans (hc k hkl j u h)
      generalize L1[k] = q at *
      obtain ⟨kd, qa, qv, qA, ql, qc, zs⟩ := q
      have c0 := hcc 0 _ rfl
      have c1 := hcc 1 _ rfl
      have c2 := hcc 2 _ rfl
      have c3 := hcc 3 _ rfl
      rw [Nat.add_zero] at c0
      obtain ⟨_, hqa, hqv, hql⟩ := hin
      obtain ⟨g1, g2, g3, l, hll, hwf, hrl⟩ := hql.rd
      have hl : ∀ x ∈ l, 0 ≤ x ∧ x < 256 := fun x hx => u8_of_wf (hwf x hx)
      have hqa2 := u32_of_wf hqa
      have hqv2 := u32_of_wf hqv
      have hcut := cut_any qA ql qc 600 g1 g2 g3
      obtain ⟨m, hm⟩ : ∃ m, min ql 600 = m := ⟨_, rfl⟩
      rw [hm] at hcut
      simp only [Int.cast_ofNat_Int] at hcut
      have hml : (l.take m).length = m := by rw [List.length_take]; simp only [] at hll; omega
      have hLa : ∀ x ∈ l.take m, 0 ≤ x ∧ x < 256 := fun x hx => hl x (List.mem_of_mem_take hx)
      have hRa : Rd w w.heap.size qA (ub (l.take m)) := by
        have := Rd.take hrl m
        unfold ub; rw [List.map_take]; exact this
      have hm6 : m ≤ 600 := by omega
      generalize l.take m = La at *
      simp only [] at hqa2 hqv2
      obtain ⟨a, rfl⟩ := Int.eq_ofNat_of_zero_le hqa2.1
      have HCUT := Lib.hid hcut
      have HLA := Lib.hid (And.intro hml (And.intro hLa hRa))
      have HV := Lib.hid hqv2
      have HA := Lib.hid (show a < 4294967296 by omega)
      have HM6 := Lib.hid hm6
      have i1 : (k : Int) < (len1 : Int) := by omega
      have i2 : (k : Int) < 50 := by omega
      have a0 : (0 : Int) ≤ (a : Int) := by omega
      have a1 : (a : Int) < 4294967296 := by omega
      clear hc hcc hkl hqa hqv hql hqa2 hqv2 hcut hml hLa hRa hl hwf hrl hll g1 g2 g3 hm hm6 hwB
      have hb1 : ∀ cs, Below wr.heap.size wr (wr.alloc (.cells cs 33)) := fun cs => (Below.refl _ _).alloc (Nat.le_refl _) _
      have HD1 := Lib.hid (fun cs => hD.out.keep HGL.out (hb1 cs))
      have HB1 := Lib.hid hb1
      have e1 := Int.emod_nonneg (a : Int) (show (N : Int) + 4 ≠ 0 by omega)
      have e2 := Int.emod_lt_of_pos (a : Int) (show 0 < (N : Int) + 4 by omega)
      obtain ⟨s, hs⟩ := Int.eq_ofNat_of_zero_le e1
      have hs2 : s < 4294967296 := by omega
      have HS2 := Lib.hid hs2
      have HOX := Lib.hid (hD.out.d.m.off (Nat.le_refl wr.heap.size))
      have HZX := Lib.hid (And.intro (And.intro (Nat.ne_of_lt hD.out.z.1) (Nat.ne_of_lt hD.out.z.2)) hzr)
      clear hb1 hs2 h1 h2 e1 e2
      rcases (show (k : Int) % 2 = 0 ∨ (k : Int) % 2 = 1 by omega) with hr2 | hr2
      all_goals
        have hr2t : (k : Int).tmod 2 = (k : Int) % 2 := Int.tmod_eq_emod_of_nonneg (by omega)
        rw [hr2] at hr2t
        by_cases hk3 : kd = 3
        case neg =>
          have hq1 : (kd == 3) = false := by simpa using hk3
          clear hk3
          go_wp2_with (first
            | (go_at_call 17; refine (HCUT.out _).mono ?_; rintro e w' ⟨rfl, rfl⟩)
            | (go_at_call 11
               refine (do_at hX.out HN.out kd qv _ qA m qc La (by first | exact HS2.out | exact HA.out) HV.out HLA.out.1.symm (by have := HM6.out; omega) HLA.out.2.1 _ HGL.out (HD1.out _) (RdO.of_rd (HD1.out _) HG.out HLA.out.2.2)).mono ?_
               rintro e w9 ⟨rfl, Y, hYn, hDY⟩
               have HYN := Lib.hid hYn
               have HDY := Lib.hid hDY
               clear hYn hDY))
          go_round
          case rel => exact ⟨k + 1, Y, by omega, by omega, by go_num, HYN, HDY⟩
          case measure => simp [intOf]; omega
        case pos =>
          subst hk3
          have hr3t : (k : Int).tmod 3 = (k : Int) % 3 := Int.tmod_eq_emod_of_nonneg (by omega)
          rcases (show (k : Int) % 3 = 0 ∨ (k : Int) % 3 = 1 ∨ (k : Int) % 3 = 2 by omega) with hr3 | hr3 | hr3
          all_goals rw [hr3] at hr3t
          case inl =>
            go_wp2_with (first
              | (go_at_call 17; refine (HCUT.out _).mono ?_; rintro e w' ⟨rfl, rfl⟩)
              | (go_at_call 11
                 refine (do_at hX.out HN.out 3 qv _ qA m qc La (by first | exact HS2.out | exact HA.out) HV.out HLA.out.1.symm (by have := HM6.out; omega) HLA.out.2.1 _ HGL.out (HD1.out _) (RdO.of_rd (HD1.out _) HG.out HLA.out.2.2)).mono ?_
                 rintro e w9 ⟨rfl, Y, hYn, hDY⟩
                 have HYN := Lib.hid hYn
                 have HDY := Lib.hid hDY
                 clear hYn hDY))
            go_round
            case rel => exact ⟨k + 1, Y, by omega, by omega, by go_num, HYN, HDY⟩
            case measure => simp [intOf]; omega
          all_goals
            go_wp2_with (go_at_call 17; refine (HCUT.out _).mono ?_; rintro e w' ⟨rfl, rfl⟩)
            first
              | (obtain ⟨t9, ht9⟩ : ∃ t9 : Nat, t9 = s := ⟨_, rfl⟩
                 rw [← ht9]
                 have HT9 : Hid (t9 < 4294967296) := by rw [ht9]; exact HS2)
              | (obtain ⟨t9, ht9⟩ : ∃ t9 : Nat, t9 = a := ⟨_, rfl⟩
                 rw [← ht9]
                 have HT9 : Hid (t9 < 4294967296) := by rw [ht9]; exact HA)
            clear ht9
            have HXQ := Lib.hid (Blk.new wr 33 #[.int .i64 3, .int .u32 (t9 : Int), .int .u32 qv, .slice qA m qc])
            have hd9 := HD1.out #[.int .i64 3, .int .u32 (t9 : Int), .int .u32 qv, .slice qA m qc]
            refine (sized_any qA m qc 64 La HLA.out.1.symm (by omega) _ ((HLA.out.2.2.below (by rw [HG.out]; exact hd9.d.b)).more (by rw [HG.out]; exact hd9.size HGL.out))).mono ?_
            rintro e w2 ⟨g2, rfl, hg2, hB2, hb2⟩
            have hg3 : wr.heap.size < g2 := by simp at hg2; omega
            have hx2 := HXQ.out.below hb2 HXQ.out.lt
            have d0 : w2.cell? ⟨wr.heap.size, 0, none⟩ = some (.int .i64 3) := hx2.cell 0
            have d1 : w2.cell? ⟨wr.heap.size, 1, none⟩ = some (.int .u32 (t9 : Int)) := hx2.cell 1
            have d2 : w2.cell? ⟨wr.heap.size, 2, none⟩ = some (.int .u32 qv) := hx2.cell 2
            have d3 : w2.cell? ⟨wr.heap.size, 3, none⟩ = some (.slice qA m qc) := hx2.cell 3
            have d4 := hx2.frozen 3
            have hd2 := (hd9.keep HGL.out hb2).far (g := wr.heap.size) HGL.out HOX.out HZX.out.1.1 HZX.out.1.2 (by rw [HG.out]; exact HZX.out.2) 3 (.slice (some ⟨g2, 0, none⟩) 64 64)
            have hro := RdO.of_row (gb := gb) (gt := gt) (IsC.far hB2 (p := ⟨wr.heap.size, 3, none⟩) (Nat.ne_of_gt hg3) (.slice (some ⟨g2, 0, none⟩) 64 64)) (hd9.d.m.off hg2) (by have := hd9.z.1; omega) (by have := hd9.z.2; omega)
            have HDO := Lib.hid (do_at hX.out HN.out 3 qv t9 (some ⟨g2, 0, none⟩) 64 64 (rowL (szF La) 64) HT9.out HV.out (by rw [rowL_len]) (by omega) (rowL_mem fun j _ => szF_bd HLA.out.2.1 j) _ HGL.out hd2 hro)
            clear hx2 HXQ hd9 hd2 hro hB2 hb2 hg2
            go_wp2_with (go_at_call 11
                         refine HDO.out.mono ?_
                         rintro e w9 ⟨rfl, Y, hYn, hDY⟩
                         have HYN := Lib.hid hYn
                         have HDY := Lib.hid hDY
                         clear hYn hDY)
            go_round
            case rel => exact ⟨k + 1, Y, by omega, by omega, by go_num, HYN, HDY⟩
            case measure => simp [intOf]; omega
    · have hM := alike_at hX.out HN.out wr HGL.out hD.out
      have HAL := Lib.hid hM
      have hzz := HG.out
      clear hM
      rcases (show len1 ≤ k ∨ (k < len1 ∧ 50 ≤ k) by omega) with hex | ⟨hex, hex2⟩
      all_goals
        clear hlt
        go_wp2_with (first
          | (go_at_call 12; refine HAL.out.mono ?_; rintro e w4 ⟨rfl, hb4⟩; have HB4 := Lib.hid hb4; clear hb4)
          | (go_at_call 15; refine (known_any _).mono ?_; rintro e w5 ⟨rfl, hb5⟩; have HB5 := Lib.hid hb5; clear hb5))
        go_ret
        exact ⟨rfl, by rw [HG.out]; exact hD.out.d.b.trans ((HB4.out.mono hzr).trans (HB5.out.mono (by have := HB4.out.size; omega)))⟩
end Go.Proofs.Ytgohmchodgoceaa

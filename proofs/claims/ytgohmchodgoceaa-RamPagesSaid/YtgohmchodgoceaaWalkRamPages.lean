/-
  innkeeperlaw7.RamPages returns true: its walk.
-/
import Derived.Test.YtgohmchodgoceaaLw
import Derived.Test.YtgohmchodgoceaaLc
import Derived.Test.YtgohmchodgoceaaRh
import Derived.Test.YtgohmchodgoceaaRowB
import Derived.Test.YtgohmchodgoceaaAppR
import Derived.Outline
namespace Go.Proofs.Ytgohmchodgoceaa
open Go.RowKit
set_option linter.unusedSimpArgs false
set_option linter.unusedVariables false

theorem rowL_take (F : Nat → Int) (n m : Nat) : rowL F (n + m) = rowL F n ++ rowL (fun j => F (n + j)) m := by
  unfold rowL
  rw [List.range_add, List.map_append, List.map_map]; rfl
theorem ub_append (L M : List Int) : ub (L ++ M) = ub L ++ ub M := by simp [ub]
/-- a page is put -/
theorem pg_b {X : Rm} {k : Nat} {L : List Int} (hk : k < X.n) (hL : L.length = 64) (j : Nat) : (X.pgS k L).b j = if k * 64 ≤ j ∧ j < k * 64 + 64 then L.getD (j - k * 64) 0 else X.b j := by
  unfold Rm.pgS
  rw [if_pos ⟨by simp [Rm.pB]; omega, hL⟩, wr_b, Int.toNat_natCast, hL]
theorem pg_n (X : Rm) (k : Int) (L : List Int) : (X.pgS k L).n = X.n := by unfold Rm.pgS; split; exact wr_n _ _ _; rfl
theorem own_up {w w' : World} {B g i : Nat} {e : TypeId} {size n : Nat} {v : Value} {xs : List Value} (h : w.ownsRow B e size v n xs) (hg : ∀ o, v.ownBlock = some o → o ≠ g) (u : Value) : (w.setCell ⟨g, i, none⟩ u).ownsRow B e size v n xs :=
  own_kept h fun o ho => Below.heap_setCell _ _ _ _ (hg o ho)
theorem Me.ext {w0 w w' : World} {B : Nat} {p : Bl} {X : Rm} {e : TypeId} {sz n m : Nat} {v v' : Value} {xs ys : List Value} (d : Me w0 B p w X) (hB : B ≤ w.heap.size) (h : Ext B e sz w w' v v' n xs) (ho : w.ownsRow B e sz v m ys) (hoff : ∀ g, v.ownBlock = some g → p.Off g) : Me w0 B p w' X := by
  obtain ⟨z1, z2, z3, z4, z5⟩ := d.m.z
  exact ⟨d.m.keep (h.grew.block _ z1 fun e => (hoff _ e.symm).1 rfl) (h.grew.block _ z2 fun e => (hoff _ e.symm).2.1 rfl) (h.grew.block _ z3 fun e => (hoff _ e.symm).2.2.1 rfl) (h.grew.block _ z4 fun e => (hoff _ e.symm).2.2.2.1 rfl) (h.grew.block _ z5 fun e => (hoff _ e.symm).2.2.2.2 rfl), d.b.trans (h.below hB ho), d.f⟩
/-- two pages that were told, turned by the caller -/
structure Pgs (w0 : World) (B : Nat) (p : Bl) (w : World) (X : Rm) (V : Value) (n gp gq : Nat) : Prop where
  d : Me w0 B p w X
  o : w.ownsRow B 5 1 V n (ub (rowL X.b n))
  off : ∀ g, V.ownBlock = some g → p.Off g ∧ g ≠ gp ∧ g ≠ gq
  pg : p.Off gp ∧ B ≤ gp
  qg : p.Off gq ∧ B ≤ gq
  ne : gp ≠ gq
  f : ∃ F, IsB w gp 64 F
  g : ∃ F, IsB w gq 64 F
theorem Pgs.setP {w0 w : World} {B : Nat} {p : Bl} {X : Rm} {V : Value} {n gp gq : Nat} (x : Pgs w0 B p w X V n gp gq) (i : Nat) (v : Int) : Pgs w0 B p (w.setCell ⟨gp, i, none⟩ (.int .u8 v)) X V n gp gq := by
  obtain ⟨F, hF⟩ := x.f
  obtain ⟨G, hG⟩ := x.g
  exact ⟨x.d.far x.pg.1 x.pg.2 i _, own_kept x.o (fun o ho => Below.heap_setCell _ _ _ _ (x.off o ho).2.1), x.off, x.pg, x.qg, x.ne, ⟨_, IsB.set hF i v⟩, ⟨G, IsC.far hG x.ne.symm _⟩⟩
theorem Pgs.setQ {w0 w : World} {B : Nat} {p : Bl} {X : Rm} {V : Value} {n gp gq : Nat} (x : Pgs w0 B p w X V n gp gq) (i : Nat) (v : Int) : Pgs w0 B p (w.setCell ⟨gq, i, none⟩ (.int .u8 v)) X V n gp gq := by
  obtain ⟨F, hF⟩ := x.f
  obtain ⟨G, hG⟩ := x.g
  exact ⟨x.d.far x.qg.1 x.qg.2 i _, own_kept x.o (fun o ho => Below.heap_setCell _ _ _ _ (x.off o ho).2.2), x.off, x.pg, x.qg, x.ne, ⟨F, IsC.far hF x.ne _⟩, ⟨_, IsB.set hG i v⟩⟩
set_option maxRecDepth 100000 in
set_option maxHeartbeats 4000000 in
theorem ramPages_walk (A0 : Option Addr) (len0 cap0 : Nat) (L0 : List Ab) (w : World) (w0 : RowB w A0 len0 cap0 L0) :
    Calls Try.prog 7 #[.slice A0 len0 cap0] w fun e w' => e = .returned (.bool true) ∧ Below w.heap.size w w' := by
  obtain ⟨hlen, hl0, hc0, _, hrd, hin⟩ := w0
  have HRD := Lib.hid hrd
  have HIN := Lib.hid hin
  have HLEN := Lib.hid hlen
  have hb0 : len0 ≤ 9223372036854775807 := by unfold maxLen at hc0; omega
  have hmk := make_u8 .i64 64 (by omega)
  simp only [Int.cast_ofNat_Int] at hmk
  have HNZ := Lib.hid (new_u8 64)
  generalize madeCells #[Value.int .u8 0] 64 = Z at *
  clear hrd hin hlen hc0 hl0
  go_enter Try.func7, Try.ntmps7
  go_wp2_with fail
  refine (freshM_any 5 (by omega) (by omega) _).mono ?_
  rintro e wa ⟨p, rfl, hd⟩
  generalize hG : w.heap.size = B at *
  have HG := Lib.hid hG
  have HD := Lib.hid hd
  clear hd hG
  go_wp2_with fail
  go_loopw [5, 6] (fun v i wr => ∃ (k : Nat) (X : Rm) (A : Option Addr) (c : Nat), k ≤ 5 ∧ i = .int .i64 k ∧ v = .slice A (k * 64) c ∧ Hid (Me w B p wr X) ∧ Hid (X.n = 5) ∧ Hid (wr.ownsRow B 5 1 (.slice A (k * 64) c) (k * 64) (ub (rowL X.b (k * 64)))) ∧ Hid (∀ g, (Value.slice A (k * 64) c).ownBlock = some g → p.Off g)) (fun _ i _ => 5 - (intOf i).toNat)
  case atStart => exact ⟨0, rm0 5, none, 0, by omega, rfl, rfl, HD, Lib.hid rfl, World.ownsRow_nil _ _ _ _, Lib.hid fun g hg => by simp [Value.ownBlock] at hg⟩
  case round =>
    clear HD
    obtain ⟨k, X, A, c, hk, rfl, rfl, hD, hN, hO, hOff⟩ := hrel
    have hzr := hD.out.size HG.out
    by_cases hlt : k < 5
    · have i1 : (k : Int) < 5 := by omega
      have HK := Lib.hid hlt
      rcases (show k < len0 ∨ len0 ≤ k by omega) with hk0 | hk0
      have hkl : k < L0.length := by have := HLEN.out; omega
      obtain ⟨b, off, rfl, hbg, hc⟩ := HRD.out (by omega)
      have hck := hc k hkl 0 _ rfl
      have hin := HIN.out _ (List.getElem_mem hkl)
      generalize L0[k] = q at *
      have hbz : Below wr.heap.size wr (wr.alloc (.cells Z 5)) := (Below.refl _ _).alloc (Nat.le_refl _) _
      have hbz2 : Below B w (wr.alloc (.cells Z 5)) := hD.out.b.trans (hbz.mono hzr)
      have hck2 := (hbz2.cell (p := ⟨b, off + k * 1 + 0, none⟩) (by show b < B; have := HG.out; omega)).trans hck
      rw [show off + k * 1 + 0 = off + k by omega] at hck2
      obtain ⟨_, _, _, l, hll, hwf, hrdl⟩ := hin.l.rd
      have hl : ∀ x ∈ l, 0 ≤ x ∧ x < 256 := fun x hx => u8_of_wf (hwf x hx)
      have HSZ := Lib.hid (sized_any q.A q.len q.cap 64 l hll.symm (by omega) (wr.alloc (.cells Z 5)) (((show Rd w w.heap.size q.A (ub l) from hrdl).below (show Below w.heap.size w (wr.alloc (.cells Z 5)) by rw [HG.out]; exact hbz2)).more (by have := hbz2.size; omega)))
      have HFB := Lib.hid (show ∀ j, j < 64 → 0 ≤ szF l j ∧ szF l j < 256 from fun j _ => by
        unfold szF
        by_cases h : j < l.length
        · rw [List.getD_eq_getElem?_getD, List.getElem?_eq_getElem h]; exact hl _ (List.getElem_mem h)
        · rw [List.getD_eq_getElem?_getD, List.getElem?_eq_none (by omega)]; exact ⟨by decide, by decide⟩)
      have i2 : (k : Int) < (len0 : Int) := by omega
      generalize szF l = F at *
      unfold NewB at HSZ
      simp only [Int.cast_ofNat_Int] at HSZ
      clear hc hck hin hll hwf hrdl hl hkl hbz hbz2
      go_wp2_with fail
      refine HSZ.out.mono ?_
      rintro e W ⟨gp, rfl, hgp, hBp, hbW⟩
      have HBP := Lib.hid hBp
      have hgp : wr.heap.size ≤ gp := by simp at hgp; omega
      have HBW := Lib.hid (((Below.refl wr.heap.size wr).alloc (Nat.le_refl _) (.cells Z 5)).trans (hbW.mono (by simp)))
      clear HSZ hBp hbW
      go_wp2_with fail
      clear hk0 i2 hck2
      rotate_left
      have HBP := Lib.hid (HNZ.out wr)
      have HBW := Lib.hid (show Below wr.heap.size wr (wr.alloc (.cells Z 5)) from (Below.refl _ _).alloc (Nat.le_refl _) _)
      have i2 : (len0 : Int) ≤ (k : Int) := by omega
      have i3 : decide ((k : Int) < (len0 : Int)) = false := by simp; omega
      go_wp2_with fail
      have HFB := Lib.hid (show ∀ j, j < 64 → 0 ≤ (fun _ : Nat => (0 : Int)) j ∧ (fun _ : Nat => (0 : Int)) j < 256 from fun _ _ => ⟨show (0 : Int) ≤ 0 by decide, show (0 : Int) < 256 by decide⟩)
      obtain ⟨gp, hge⟩ : ∃ gp, gp = wr.heap.size := ⟨_, rfl⟩
      have hgp : wr.heap.size ≤ gp := by omega
      rw [← hge] at HBP ⊢
      generalize (fun _ : Nat => (0 : Int)) = F at *
      generalize wr.alloc (.cells Z 5) = W at *
      clear hge hk0 i2 i3
      rotate_left
      all_goals
        have hzW := HBW.out.size
        have hoffp := hD.out.m.off hgp
        have HDW := Lib.hid (hD.out.keep hzr HBW.out)
        have hpp := putPage_any (k : Int) (some ⟨gp, 0, none⟩) 64 64 (rowL F 64) (by rw [rowL_len]) (by omega) (rowL_mem HFB.out) W HDW.out.m (HBP.out.rdM hoffp.1.symm hoffp.2.2.1.symm hoffp.2.2.2.2.symm)
        have hkX : k < X.n := by rw [hN.out]; exact HK.out
        rw [show X.pgV (k : Int) 64 = true by simp [Rm.pgV, Rm.pB]; omega] at hpp
        have hYn := pg_n X (k : Int) (rowL F 64)
        have hYb := pg_b hkX (rowL_len F 64)
        rw [hN.out] at hYn
        generalize X.pgS (k : Int) (rowL F 64) = Y at *
        have e1 : rowL Y.b (k * 64) = rowL X.b (k * 64) := rowL_congr fun j hj => by rw [hYb, if_neg (by omega)]
        have e2 : rowL (fun j => Y.b (k * 64 + j)) 64 = rowL F 64 := rowL_congr fun j hj => by rw [hYb, if_pos (by omega), show k * 64 + j - k * 64 = j by omega, rowL_get F hj]
        have HE := Lib.hid (And.intro e1 e2)
        have HYN := Lib.hid hYn
        have HOF := Lib.hid hoffp
        have HPP := Lib.hid hpp
        unfold Left at HPP
        clear hpp hoffp hYn hYb e1 e2 hkX
        refine HPP.out.mono ?_
        rintro e W1 ⟨rfl, hm1, ha1⟩
        have hbW : B ≤ W.heap.size := by omega
        have HD1 := Lib.hid (HDW.out.left hbW hm1 ha1)
        have HBP1 := Lib.hid (IsC.alt HBP.out ha1 HOF.out.1.symm HOF.out.2.2.1.symm HOF.out.2.2.2.2.symm)
        have HO1 := Lib.hid (own_kept (own_below hO.out HBW.out) (fun g hg => ha1.block g (Nat.lt_of_lt_of_le (hO.out.lt g hg).2 hzW) (hOff.out g hg).1.symm (hOff.out g hg).2.2.1.symm (hOff.out g hg).2.2.2.2.symm))
        have hbW1 : B ≤ W1.heap.size := Nat.le_trans hbW ha1.size
        have HGP := Lib.hid (show gp < W1.heap.size from IsC.lt HBP1.out)
        have HNO := Lib.hid (show ∀ g, (Value.slice A (k * 64) c).ownBlock = some g → g ≠ gp from fun g hg => by have := (hO.out.lt g hg).2; omega)
        have HRP := Lib.hid (IsB.rd HBP1.out)
        clear HPP HDW HBP hm1 ha1 HBW
        go_wp2_with (at_builtin
                     refine wpList_app_rd rfl (.tmp 43) (.tmp 44) _ rfl B 5 _ 1 1 Try.underlying29 Try.info_u8' rfl (by omega) (.slice A (k * 64) c) (k * 64) (ub (rowL X.b (k * 64))) rfl HO1.out W1.heap.size (some ⟨gp, 0, none⟩) 64 64 (ub (rowL F 64)) rfl HRP.out (by rw [ub_len, rowL_len]) (fun v hv => by obtain ⟨x, _, rfl⟩ := List.mem_map.1 hv; rfl) (by unfold maxLen; omega) (by omega) hbW1 ?_
                     intro A2 c2 w2 hext2
                     have HX2 := Lib.hid hext2
                     clear hext2)
        have hs12 := HX2.out.grew.size
        have HD2 := Lib.hid (HD1.out.ext hbW1 HX2.out HO1.out (fun g hg => hOff.out g hg))
        have HBP2 := Lib.hid (IsC.keep HBP1.out (HX2.out.grew.block _ HGP.out fun e => HNO.out _ e.symm rfl))
        have HO2 := Lib.hid HX2.out.own
        have HOF2 := Lib.hid (show ∀ g, (Value.slice A2 (k * 64 + 64) c2).ownBlock = some g → p.Off g ∧ g ≠ gp ∧ g < w2.heap.size from fun g hg => by
          have hlt := (HX2.out.own.lt g hg).2
          rcases HX2.out.lies g hg with h | h
          · exact ⟨hOff.out g h, HNO.out g h, hlt⟩
          · exact ⟨HD1.out.m.off h, by have := HGP.out; omega, hlt⟩)
        have hpg := page_ok k (by rw [HYN.out]; exact HK.out) w2 HD2.out.m
        have hb2 : B ≤ w2.heap.size := Nat.le_trans hbW1 hs12
        have HPG := Lib.hid hpg
        unfold NewB at HPG
        have hgp2 : gp < w2.heap.size := by have := HGP.out; omega
        clear hpg HX2 HO1 HRP HBP1 HD1 HNO
        refine HPG.out.mono ?_
        rintro e w3 ⟨gq, rfl, hgq, hBq, hb3⟩
        have HD3 := Lib.hid (HD2.out.keep hb2 hb3)
        have HBP3 := IsC.after HBP2.out hb3
        have hBq2 : IsB w3 gq 64 F := hBq.cast fun j hj => by
          have h1 := congrArg (fun L => L.getD j 0) HE.out.2
          simp only [rowL_get _ hj] at h1
          exact h1.symm
        have f1 := conv_B HBP3 HFB.out 64
        have f2 := conv_B hBq2 HFB.out 64
        have HPS := Lib.hid (show Pgs w B p w3 Y (.slice A2 (k * 64 + 64) c2) (k * 64 + 64) gp gq from
          ⟨HD3.out, by
            have h := own_below HO2.out hb3
            rw [← ub_append, ← HE.out.1, ← HE.out.2, ← rowL_take] at h
            exact h, fun g hg => ⟨(HOF2.out g hg).1, (HOF2.out g hg).2.1, by have := (HOF2.out g hg).2.2; omega⟩, ⟨HOF.out, by omega⟩, ⟨HD2.out.m.off hgq, by omega⟩, by omega, ⟨F, HBP3⟩, ⟨F, hBq2⟩⟩)
        generalize strL (rowL F 64) = S1 at *
        clear HPG HD2 HBP2 HO2 HOF2 HE HFB hBq hBq2 HBP3 hb3 HD3
        go_wp2_with fail
        clear f1 f2
        go_loopw [10] (fun i wr => ∃ j : Nat, j ≤ 64 ∧ i = .int .i64 j ∧ Hid (Pgs w B p wr Y (.slice A2 (k * 64 + 64) c2) (k * 64 + 64) gp gq)) (fun i _ => 64 - (intOf i).toNat)
        case atStart => exact ⟨0, by omega, rfl, HPS⟩
        case round =>
          clear HPS
          obtain ⟨j, hj, rfl, hP⟩ := hrel
          by_cases hlj : j < 64
          · obtain ⟨F1, hF1⟩ := hP.out.f
            obtain ⟨G1, hG1⟩ := hP.out.g
            have d1 := IsC.cell hG1 j hlj
            have d2 := IsC.frozen hG1 j
            have d3 := IsC.cell (IsC.far (p := ⟨gq, j, none⟩) hF1 hP.out.ne (.int .u8 0)) j hlj
            have d4 := IsC.cell hF1 j hlj
            have d5 := IsC.frozen hF1 j
            have HNE := Lib.hid hP.out.ne
            have hne : ¬ gp = gq := hP.out.ne
            have hne2 : ¬ gq = gp := hP.out.ne.symm
            have j0 : (0 : Int) ≤ (j : Int) := by omega
            have j1 : (j : Int) < 64 := by omega
            clear hF1 hG1 d3
            generalize F1 j = y1 at *
            generalize G1 j = y2 at *
            go_wp2_with fail
            go_round
            case rel => exact ⟨j + 1, by omega, by go_num, Lib.hid ((hP.out.setQ j _).setP j _)⟩
            case measure => simp [intOf]; omega
          · obtain rfl : j = 64 := by omega
            go_wp2_with fail
            go_round
            case rel => exact ⟨k + 1, Y, A2, c2, by omega, by go_num, by rw [show (k + 1) * 64 = k * 64 + 64 by omega], Lib.hid hP.out.d, HYN, by rw [show (k + 1) * 64 = k * 64 + 64 by omega]; exact Lib.hid hP.out.o, by rw [show (k + 1) * 64 = k * 64 + 64 by omega]; exact Lib.hid (fun g hg => (hP.out.off g hg).1)⟩
            case measure => simp [intOf]; omega
    · obtain rfl : k = 5 := by omega
      have hal := allM_any wr hD.out.m
      rw [hN.out] at hal
      have HAL := Lib.hid hal
      unfold NewB at HAL
      have HBD := Lib.hid (fun j (hj : j < 320) => hD.out.m.bd j (by rw [hN.out]; exact hj))
      clear hal hlt
      go_wp2_with fail
      refine HAL.out.mono ?_
      rintro e w2 ⟨ga, rfl, hga, hBa, hb2⟩
      have HD2 := Lib.hid (hD.out.keep hzr hb2)
      have hb2z : B ≤ w2.heap.size := HD2.out.size HG.out
      have HO2 := Lib.hid (own_below hO.out hb2)
      have f1 := conv_B hBa HBD.out 320
      have f2 := conv_L (A := A) (rowL X.b 320) 320 c (rowL_len _ _) (rowL_mem HBD.out) (Rd.of_own HO2.out)
      have HW := Lib.hid (fun W (hb : Below w2.heap.size w2 W) => conv_L (A := A) (rowL X.b 320) 320 c (rowL_len _ _) (rowL_mem HBD.out) ((Rd.of_own HO2.out).below hb))
      have HA0 := Lib.hid (And.intro hga (IsC.lt hBa))
      have HBA := Lib.hid (show ∃ F, IsB w2 ga 320 F from ⟨_, hBa⟩)
      have HFS := Lib.hid (show ∀ g, (Value.slice A 320 c).ownBlock = some g → g ≠ ga from fun g hg => by have := (hO.out.lt g hg).2; omega)
      have HOA := Lib.hid (hD.out.m.off hga)
      generalize hSS : strL (rowL X.b 320) = S1 at *
      have HSS := Lib.hid hSS
      clear HAL hBa hb2 hD hO hOff HW hSS
      go_wp2_with fail
      clear f1 f2
      go_loopw [13] (fun i wx => ∃ j : Nat, j ≤ 320 ∧ i = .int .i64 j ∧ Hid (Me w B p wx X) ∧ Hid (wx.ownsRow B 5 1 (.slice A 320 c) 320 (ub (rowL X.b 320))) ∧ Hid (∃ F, IsB wx ga 320 F)) (fun i _ => 320 - (intOf i).toNat)
      case atStart => exact ⟨0, by omega, rfl, HD2, HO2, HBA⟩
      case round =>
        clear HD2 HO2 HBA
        obtain ⟨j, hj, rfl, hD, hO, hB⟩ := hrel
        by_cases hlj : j < 320
        · obtain ⟨F1, hF1⟩ := hB.out
          have d4 := IsC.cell hF1 j hlj
          have d5 := IsC.frozen hF1 j
          have HF1 := Lib.hid hF1
          have j0 : (0 : Int) ≤ (j : Int) := by omega
          have j1 : (j : Int) < 320 := by omega
          clear hF1
          generalize F1 j = y1 at *
          go_wp2_with fail
          go_round
          case rel => exact ⟨j + 1, by omega, by go_num, Lib.hid (hD.out.far HOA.out (by have := HA0.out; omega) j _), Lib.hid (own_kept hO.out fun o ho => Below.heap_setCell _ _ _ _ (HFS.out o ho)), Lib.hid ⟨_, IsB.set HF1.out j _⟩⟩
          case measure => simp [intOf]; omega
        · obtain rfl : j = 320 := by omega
          have hzx := hD.out.size HG.out
          go_wp2_with fail
          obtain ⟨W0, rfl⟩ : ∃ W0, W0 = wr := ⟨_, rfl⟩
          have hwant := fun W (hb : Below W0.heap.size W0 W) => conv_L (A := A) (rowL X.b 320) 320 c (rowL_len _ _) (rowL_mem HBD.out) ((Rd.of_own hO.out).below hb)
          have hal : ∀ W, Below W0.heap.size W0 W → Calls Try.prog 25 #[.pointer (some ⟨p.m, 0, none⟩)] W (NewB X.b 320 (fun A => .slice A 320 320) W) := fun W hb => by
            have := allM_any W (hD.out.m.below hb)
            rw [hN.out] at this; exact this
          have HAL := Lib.hid hal
          unfold NewB at HAL
          have HB0 := Lib.hid hD.out.b
          rw [HSS.out] at hwant
          clear hal hlj hD hO hB
          have hst : Below W0.heap.size W0 W0.drew := (Below.refl _ _).drew
          refine wp_region_held_drew (S := fun w' => Below W0.heap.size W0 w') (by kernel_rfl) hst (fun hHeld => ?_)
          try dsimp only
          refine' wpAnyH_take (i := 0) (v := _) rfl (by kernel_rfl) (by kernel_rfl) (by kernel_rfl) (fun _ _ _ h => h) (Or.inl ⟨by rfl, ?hy0⟩) hHeld ?_
          case hy0 => (intro w hSw; (try dsimp only at hSw); go_simp; (try with_reducible rfl))
          (try simp only [Act.put, List.getElem_toArray, List.getElem_cons_succ, List.getElem_cons_zero, List.setIfInBounds_toArray, List.set_cons_zero, List.set_cons_succ])
          refine' wpAnyH_take (i := 1) (v := _) rfl (by kernel_rfl) (by kernel_rfl) (by kernel_rfl) (fun _ _ _ h => h) (Or.inl ⟨by rfl, ?hy1⟩) hHeld ?_
          case hy1 => (intro w hSw; (try dsimp only at hSw); go_simp; (try with_reducible rfl))
          (try simp only [Act.put, List.getElem_toArray, List.getElem_cons_succ, List.getElem_cons_zero, List.setIfInBounds_toArray, List.set_cons_zero, List.set_cons_succ])
          refine' wpAnyH_take (i := 2) (v := _) rfl (by kernel_rfl) (by kernel_rfl) (by kernel_rfl) (fun _ _ _ h => h) (Or.inl ⟨by rfl, ?hy2⟩) hHeld ?_
          case hy2 => (intro w hSw; (try dsimp only at hSw); go_simp; (try with_reducible rfl))
          (try simp only [Act.put, List.getElem_toArray, List.getElem_cons_succ, List.getElem_cons_zero, List.setIfInBounds_toArray, List.set_cons_zero, List.set_cons_succ])
          refine' wpAnyH_take (i := 5) (v := _) rfl (by kernel_rfl) (by kernel_rfl) (by kernel_rfl) (fun _ _ _ h => h) (Or.inl ⟨by rfl, ?hy5⟩) hHeld ?_
          case hy5 => (intro w hSw; (try dsimp only at hSw); go_simp; (try with_reducible rfl))
          (try simp only [Act.put, List.getElem_toArray, List.getElem_cons_succ, List.getElem_cons_zero, List.setIfInBounds_toArray, List.set_cons_zero, List.set_cons_succ])
          refine' wpAnyH_take (i := 6) (v := _) rfl (by kernel_rfl) (by kernel_rfl) (by kernel_rfl) (fun _ _ _ h => h) (Or.inl ⟨by rfl, ?hy6⟩) hHeld ?_
          case hy6 => (intro w hSw; (try dsimp only at hSw); go_simp; (try with_reducible rfl))
          (try simp only [Act.put, List.getElem_toArray, List.getElem_cons_succ, List.getElem_cons_zero, List.setIfInBounds_toArray, List.set_cons_zero, List.set_cons_succ])
          refine wpAnyH_ready (rs := [3]) (by kernel_rfl) (by simp) ?_
          refine AllReadyH.cons rfl (fun K hK => ?_) AllReadyH.nil
          go_simp
          (go_at_call 25; refine (HAL.out _ hHeld).mono ?_; rintro e v1 ⟨gb, rfl, hgb, hBb, hbb⟩)
          refine hK.out _ _ (hHeld.trans (hbb.mono hHeld.size)) (fun hHeld => ?_)
          clear hK K
          (try simp only [Act.put, List.getElem_toArray, List.getElem_cons_succ, List.getElem_cons_zero, List.setIfInBounds_toArray, List.set_cons_zero, List.set_cons_succ])
          have f1 := fun W (hb : Below v1.heap.size v1 W) => conv_B (IsC.after hBb hb) HBD.out 320
          rw [HSS.out] at f1
          have HH1 := Lib.hid hHeld
          clear HAL hBb hbb hwant
          refine wpAnyH_mono (S' := fun w' => Below v1.heap.size v1 w') (fun _ h => HH1.out.trans (h.mono HH1.out.size)) _ _ _ _ ?_
          replace hHeld := Below.refl v1.heap.size v1
          refine' wpAnyH_take (i := 4) (v := _) rfl (by kernel_rfl) (by kernel_rfl) (by kernel_rfl) (fun _ _ _ h => h) (Or.inl ⟨by rfl, ?hy4⟩) hHeld ?_
          case hy4 => (intro w hSw; (try dsimp only at hSw); go_simp; (try with_reducible rfl))
          (try simp only [Act.put, List.getElem_toArray, List.getElem_cons_succ, List.getElem_cons_zero, List.setIfInBounds_toArray, List.set_cons_zero, List.set_cons_succ])
          refine' wpAnyH_take (i := 7) (v := _) rfl (by kernel_rfl) (by kernel_rfl) (by kernel_rfl) (fun _ _ _ h => h) (Or.inl ⟨by rfl, ?hy7⟩) hHeld ?_
          case hy7 => (intro w hSw; (try dsimp only at hSw); go_simp; (try with_reducible rfl))
          (try simp only [Act.put, List.getElem_toArray, List.getElem_cons_succ, List.getElem_cons_zero, List.setIfInBounds_toArray, List.set_cons_zero, List.set_cons_succ])
          refine' wpAnyH_take (i := 8) (v := _) rfl (by kernel_rfl) (by kernel_rfl) (by kernel_rfl) (fun _ _ _ h => h) (Or.inl ⟨by rfl, ?hy8⟩) hHeld ?_
          case hy8 => (intro w hSw; (try dsimp only at hSw); go_simp; (try with_reducible rfl))
          (try simp only [Act.put, List.getElem_toArray, List.getElem_cons_succ, List.getElem_cons_zero, List.setIfInBounds_toArray, List.set_cons_zero, List.set_cons_succ])
          refine' wpAnyH_take (i := 9) (v := _) rfl (by kernel_rfl) (by kernel_rfl) (by kernel_rfl) (fun _ _ _ h => h) (Or.inl ⟨by rfl, ?hy9⟩) hHeld ?_
          case hy9 => (intro w hSw; (try dsimp only at hSw); go_simp; (try with_reducible rfl))
          (try simp only [Act.put, List.getElem_toArray, List.getElem_cons_succ, List.getElem_cons_zero, List.setIfInBounds_toArray, List.set_cons_zero, List.set_cons_succ])
          refine wpAnyH_ready (rs := [10]) (by kernel_rfl) (by simp) ?_
          refine AllReadyH.cons rfl (fun K hK => ?_) AllReadyH.nil
          go_simp
          (go_at_call 15; refine (known_any _).mono ?_; rintro e v6 ⟨rfl, hb6⟩)
          refine hK.out _ _ (hHeld.trans (hb6.mono hHeld.size)) (fun hHeld => ?_)
          clear hK K
          (try simp only [Act.put, List.getElem_toArray, List.getElem_cons_succ, List.getElem_cons_zero, List.setIfInBounds_toArray, List.set_cons_zero, List.set_cons_succ])
          clear hb6
          refine' wpAnyH_take (i := 11) (v := _) rfl (by kernel_rfl) (by kernel_rfl) (by kernel_rfl) (fun _ _ _ h => h) (Or.inl ⟨by rfl, ?hy11⟩) hHeld ?_
          case hy11 => (intro w hSw; (try dsimp only at hSw); go_simp; (try with_reducible rfl))
          (try simp only [Act.put, List.getElem_toArray, List.getElem_cons_succ, List.getElem_cons_zero, List.setIfInBounds_toArray, List.set_cons_zero, List.set_cons_succ])
          refine' wpAnyH_take (i := 12) (v := _) rfl (by kernel_rfl) (by kernel_rfl) (by kernel_rfl) (fun _ _ _ h => h) (Or.inl ⟨by rfl, ?hy12⟩) hHeld ?_
          case hy12 => (intro w hSw; (try dsimp only at hSw); go_simp; (try with_reducible rfl))
          (try simp only [Act.put, List.getElem_toArray, List.getElem_cons_succ, List.getElem_cons_zero, List.setIfInBounds_toArray, List.set_cons_zero, List.set_cons_succ])
          refine wpAnyH_done (by kernel_rfl) ?_ _
          have HF := Lib.hid (HH1.out.trans (hHeld.mono HH1.out.size))
          clear hHeld HH1 f1
          go_wp2_with fail
          go_ret
          exact ⟨rfl, by rw [HG.out]; exact HB0.out.trans (HF.out.mono hzx)⟩
end Go.Proofs.Ytgohmchodgoceaa

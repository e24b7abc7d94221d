/-
  innkeeperref5's Give, Drop: A CONTRACT EACH.
-/
import Derived.Test.YtjjcbkmdmdkgiaaPu
import Derived.Test.YtjjcbkmdmdkgiaaPv
namespace Go.Proofs.Ytjjcbkmdmdkgiaa
open Go.RowKit
set_option linter.unusedSimpArgs false
set_option linter.unusedVariables false

def Rgived (S : Po) (g : Nat) (o : Int) (L : List Int) (w : World) (e : Ending) (w' : World) : Prop :=
  e = .returned (.int .i64 (S.giveV o L)) ∧ IsR w' g (S.giveS o L) ∧ Turn g g w w'
def Rdropd (S : Po) (g : Nat) (o : Int) (w : World) (e : Ending) (w' : World) : Prop :=
  e = .returned (.int .i64 (S.dropV o)) ∧ IsR w' g (S.dropS o) ∧ Turn g g w w'
theorem Turn.drewN {g h : Nat} {w w' : World} (t : Turn g h w w') (n : Nat) : Turn g h w (w'.drewN n) := t.trans (Turn.of_below (Below_drewN (Below.refl _ _) n))
theorem Turn.drew {g h : Nat} {w w' : World} (t : Turn g h w w') : Turn g h w w'.drew := t.trans (Turn.of_below ((Below.refl _ _).drew))
/-- one frame fewer, in the document's pool -/
theorem IsR.give {w : World} {g : Nat} {S : Po} (X : IsR w g S) (q : Nat) (hq : q < 256) : IsR (w.setCell ⟨g, q, none⟩ (.int .i64 (-1))) g (S.rel1 q) :=
  X.setOwn q hq (-1) (.inl rfl) (upd S.byte q (fun _ => 0)) (fun f a => by
    by_cases e : f = q
    · subst e; simp
    · simp only [upd_other _ _ _ _ e]; exact X.good.byte f a)
section
variable {g : Nat} {S : Po}
set_option maxRecDepth 100000 in
set_option maxHeartbeats 2000000 in
theorem rgive_any (o : Int) (A : Option Addr) (n c : Nat) (L : List Int) (hn : n = L.length) (hn2 : n ≤ 1000) (w : World) (hP : IsR w g S) (hR : Rdx w g A (iv L)) :
    Calls Try.prog 25 #[.pointer (some ⟨g, 0, none⟩), .int .i64 o, .slice A n c] w (Rgived S g o L w) := by
  have hh := rowner_any o
  have HP := Lib.hid hP
  have HR := Lib.hid hR
  have HN := Lib.hid hn
  have hz := hP.z
  rcases give_cases S o L with ⟨ho, e1, e2⟩ | ⟨ho, hc⟩
  · unfold Rgived
    rw [e1, e2]
    rw [ho] at hh
    have HH := Lib.hid hh
    clear hh hP e1 e2 ho hR hn
    go_enter Try.func25, Try.ntmps25
    go_wp2_with (go_at_call 36; refine (HH.out _).mono ?_; rintro e w' ⟨rfl, rfl⟩)
    go_ret
    exact ⟨rfl, HP.out, Turn.refl _ _ _⟩
  · rw [ho] at hh
    have HH := Lib.hid hh
    have HC := Lib.hid hc
    have HO0 := Lib.hid (show 0 ≤ o by obtain ⟨q, rfl, _⟩ := oB_true ho; omega)
    clear hh hP hc ho hR hn
    go_enter Try.func25, Try.ntmps25
    go_wp2_with (go_at_call 36; refine (HH.out _).mono ?_; rintro e w' ⟨rfl, rfl⟩)
    go_loopw [7] (fun i wr => ∃ k : Nat, k ≤ n ∧ i = .int .i64 k ∧ Hid (S.okG o (L.take k)) ∧ Hid (IsR wr g S) ∧ Hid (Turn g g w wr)) (fun i _ => n - (intOf i).toNat)
    case atStart => exact ⟨0, by omega, rfl, Lib.hid ⟨by simp, by simp⟩, HP, Lib.hid (Turn.refl _ _ _)⟩
    case round =>
      obtain ⟨k, hk, rfl, hO, hW, hT⟩ := hrel
      have hzz := hW.out.z
      by_cases hlt : k < n
      · have hkl : k < L.length := by have := HN.out; omega
        obtain ⟨b, off, rfl, hbg, hb, hc⟩ := (HR.out.turn hT.out) (by rw [iv_len]; omega)
        have hck := hc k _ (iv_get hkl)
        have HKL := Lib.hid hkl
        have HSU := Lib.hid (okG_succ hkl hO.out)
        have HNO1 := Lib.hid (okG_not1 (S := S) (o := o) hkl)
        have HNO2 := Lib.hid (okG_not2 (S := S) (o := o) hkl)
        have HGT := Lib.hid (fun (j : Nat) (hj : j < k) => show wr.cell? ⟨b, off + j, none⟩ = some (.int .i64 (L.getD j 0)) by
          have := hc j _ (iv_get (show j < L.length by omega))
          rw [this]; simp [List.getD, List.getElem?_eq_getElem (show j < L.length by omega)])
        have HTK := Lib.hid (fun (j : Nat) (hj : j ≤ k) (x : Int) => show x ∈ L.take j ↔ ∃ i, i < j ∧ L.getD i 0 = x by
          rw [List.mem_take_iff_getElem]
          constructor
          · rintro ⟨i, hi, rfl⟩
            exact ⟨i, by omega, by simp [List.getD, List.getElem?_eq_getElem (show i < L.length by omega)]⟩
          · rintro ⟨i, hi, rfl⟩
            exact ⟨i, by omega, by simp [List.getD, List.getElem?_eq_getElem (show i < L.length by omega)]⟩)
        have hk0 : (0 : Int) ≤ (k : Int) := by omega
        have hkn : (k : Int) < (n : Int) := by omega
        clear hc
        generalize L[k] = x at *
        clear hkl
        have HCK := Lib.hid hck
        have key : ∃ b1 b2 b3 : Bool, b1 = decide (x < 0) ∧ b2 = decide (x ≥ 256) ∧ True := ⟨_, _, true, rfl, rfl, trivial⟩
        clear key
        by_cases hx0 : x < 0
        · have HNO := Lib.hid (HNO1.out (by simp [Po.isB, Po.hB, fB]; intro h; omega))
          clear HSU HNO1 HNO2 HGT HTK
          go_wp2
          go_quiet (fail)
          go_wp2
          go_ret
          rcases HC.out with ⟨_, e1, e2⟩ | ⟨h, _⟩
          · exact ⟨ret_i64 e1.symm, by rw [e2]; exact hW.out.below (Below_drewN (Below.refl _ _) _), hT.out.drewN _⟩
          · exact absurd h HNO.out
        · have d0 : decide (x < 0) = false := by simpa using hx0
          by_cases hx1 : x ≥ 256
          · have HNO := Lib.hid (HNO1.out (by simp [Po.isB, Po.hB, fB]; intro h; omega))
            clear HSU HNO1 HNO2 HGT HTK
            go_wp2
            go_quiet (fail)
            go_wp2
            go_ret
            rcases HC.out with ⟨_, e1, e2⟩ | ⟨h, _⟩
            · exact ⟨ret_i64 e1.symm, by rw [e2]; exact hW.out.below (Below_drewN (Below.refl _ _) _), hT.out.drewN _⟩
            · exact absurd h HNO.out
          · have d1 : decide (x ≥ 256) = false := by simpa using hx1
            obtain ⟨q, rfl⟩ := Int.eq_ofNat_of_zero_le (show 0 ≤ x by omega)
            have hq : q < 256 := by omega
            have hqi : (q : Int) < 256 := by omega
            have hq0 : (0 : Int) ≤ (q : Int) := by omega
            have hco := hW.out.ow q hq
            have HIB := Lib.hid (isB_nat (S := S) (o := o) hq)
            have hob := HP.out.good.own q
            by_cases ho : S.own q = o
            · have d2 : (S.own q != o) = false := by simpa using ho
              have HIBT := Lib.hid (HIB.out.2 ⟨ho, by
                rcases HC.out with ⟨_, _, _⟩ | ⟨hx, _⟩
                · have := hob; rw [ho] at this; have := HO0.out; omega
                · have := HO0.out; omega⟩)
              clear HNO1 ho hob hx0 hx1
              generalize S.own q = y at *
              go_wp2
              go_quiet (fail)
              go_wp2
              clear hck hco d0 d1 d2
              go_loopw [8] (fun i wx => ∃ j : Nat, j ≤ k ∧ i = .int .i64 j ∧ Hid ((q : Int) ∉ L.take j) ∧ Hid (Below wr.heap.size wr wx)) (fun i _ => k - (intOf i).toNat)
              case atStart => exact ⟨0, by omega, rfl, Lib.hid (by simp), Lib.hid (Below_drewN (Below.refl _ _) _)⟩
              case round =>
                obtain ⟨j, hj, rfl, hNM, hBx⟩ := hrel
                by_cases hjk : j < k
                · have hcj := (hBx.out.cell (p := ⟨b, off + j, none⟩) hb).trans (HGT.out j hjk)
                  have hck := (hBx.out.cell (p := ⟨b, off + k, none⟩) hb).trans HCK.out
                  have hj0 : (0 : Int) ≤ (j : Int) := by omega
                  have hjn : (j : Int) < (n : Int) := by omega
                  have HJ := Lib.hid hjk
                  have HSJ := Lib.hid (HTK.out (j + 1) (by omega) (q : Int))
                  have HSJ0 := Lib.hid (HTK.out j (by omega) (q : Int))
                  have HSJK := Lib.hid (HTK.out k (by omega) (q : Int))
                  by_cases he : L.getD j 0 = (q : Int)
                  · have hbe : (L.getD j 0 == (q : Int)) = true := by simpa using he
                    have HNO := Lib.hid (HNO2.out (HSJK.out.2 ⟨j, HJ.out, he⟩))
                    clear HSU HNO2 HTK he
                    generalize L.getD j 0 = y2 at *
                    go_wp2
                    go_quiet (fail)
                    go_wp2
                    go_ret
                    rcases HC.out with ⟨_, e1, e2⟩ | ⟨h, _⟩
                    · exact ⟨ret_i64 e1.symm, by rw [e2]; exact (hW.out.below hBx.out).below (Below_drewN (Below.refl _ _) _), (hT.out.trans (Turn.of_below hBx.out)).drewN _⟩
                    · exact absurd h HNO.out
                  · have hbe : (L.getD j 0 == (q : Int)) = false := by simpa using he
                    have HNX := Lib.hid (show (q : Int) ∉ L.take (j + 1) by
                      rw [HSJ.out]
                      rintro ⟨i, hi, hv⟩
                      by_cases e : i = j
                      · subst e; exact he hv
                      · exact hNM.out (HSJ0.out.2 ⟨i, by omega, hv⟩))
                    clear he
                    generalize hgg : L.getD j 0 = y2 at *
                    clear hgg
                    go_wp2
                    go_quiet (fail)
                    go_wp2
                    go_roundw
                    case rel => exact ⟨j + 1, by have := HJ.out; omega, by go_num, HNX, Lib.hid (Below_drewN hBx.out _)⟩
                    case measure => simp [intOf]; have := HJ.out; omega
                · obtain rfl : j = k := by omega
                  have HSUX := Lib.hid (HSU.out HIBT.out hNM.out)
                  clear hj hjk
                  go_wp2
                  go_roundw
                  case rel => exact ⟨j + 1, by omega, by go_num, HSUX, Lib.hid (hW.out.below hBx.out), Lib.hid (hT.out.trans (Turn.of_below hBx.out))⟩
                  case measure => simp [intOf]; omega
            · have d2 : (S.own q != o) = true := by simpa using ho
              have HNO := Lib.hid (HNO1.out (by
                cases hib : S.isB o q
                · rfl
                · exact absurd (HIB.out.1 hib).1 ho))
              clear HSU HNO1 HNO2 HGT HTK ho hob hx0 hx1
              generalize S.own q = y at *
              go_wp2
              go_quiet (fail)
              go_wp2
              go_ret
              rcases HC.out with ⟨_, e1, e2⟩ | ⟨h, _⟩
              · exact ⟨ret_i64 e1.symm, by rw [e2]; exact hW.out.below (Below_drewN (Below.refl _ _) _), hT.out.drewN _⟩
              · exact absurd h HNO.out
      · obtain rfl : k = n := by omega
        have hok := hO.out
        rw [HN.out, List.take_length] at hok
        rcases HC.out with ⟨h, _⟩ | ⟨_, e1, e2⟩
        · exact absurd hok h
        · have HE := Lib.hid (And.intro e1 e2)
          obtain ⟨q1, q2⟩ := okG_nv hok
          have Q1 := Lib.hid q1
          have Q2 := Lib.hid q2
          clear hk hlt q1 q2 e1 e2 hok hO
          go_wp2
          go_loopw [9] (fun i wx => ∃ j : Nat, j ≤ k ∧ i = .int .i64 j ∧ Hid (IsR wx g (S.rel ((L.map Int.toNat).take j))) ∧ Hid (Turn g g w wx)) (fun i _ => k - (intOf i).toNat)
          case atStart => exact ⟨0, by omega, rfl, hW, hT⟩
          case round =>
            clear hW hT hzz
            obtain ⟨j, hj, rfl, hW, hT⟩ := hrel
            have hzz := hW.out.z
            by_cases hlt : j < k
            · have hkl : j < (L.map Int.toNat).length := by rw [List.length_map]; have := HN.out; omega
              have hcells := (HR.out.turn hT.out) (by rw [iv_len]; have := HN.out; omega)
              rw [← Q1.out] at hcells
              obtain ⟨b, off, rfl, hbg, hb, hc⟩ := hcells
              have hck := hc j _ (nv_get hkl)
              have hq := Q2.out _ (List.getElem_mem hkl)
              have hs := rel_take S (L.map Int.toNat) j hkl
              have HS := Lib.hid hs
              clear hc hs
              generalize (L.map Int.toNat)[j] = q at *
              have hset := hW.out.give q hq
              have HSET := Lib.hid hset
              have hco := hW.out.ow q hq
              have hfo := hW.out.fr q
              have hj0 : (0 : Int) ≤ (j : Int) := by omega
              have hjn : (j : Int) < (k : Int) := by omega
              have hq0 : (0 : Int) ≤ (q : Int) := by omega
              have hqi : (q : Int) < 256 := by omega
              clear hset hkl
              generalize (S.rel ((L.map Int.toNat).take j)).own q = y at *
              go_wp2
              go_region
              all_goals
                go_wp2
                go_roundw
                case rel => exact ⟨j + 1, by omega, by go_num, Lib.hid (by rw [HS.out]; first | exact HSET.out | exact HSET.out.below ((Below.refl _ _).drew)), Lib.hid ((hT.out.drew).setG _ _)⟩
                case measure => simp [intOf]; omega
            · obtain rfl : j = k := by omega
              rw [HN.out, ← List.length_map (f := Int.toNat), List.take_length] at hW
              clear hj hlt
              go_wp2
              go_ret
              exact ⟨ret_i64 HE.out.1.symm, by rw [HE.out.2]; exact hW.out, hT.out⟩
end
end Go.Proofs.Ytjjcbkmdmdkgiaa

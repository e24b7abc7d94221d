/-
  frames: Give: A CONTRACT.
-/
import Derived.Test.YtoejpdhcibbgdaaPt
namespace Go.Proofs.Ytoejpdhcibbgdaa
open Go.RowKit
set_option linter.unusedSimpArgs false
set_option linter.unusedVariables false

def iv (L : List Int) : List Value := L.map (Value.int .i64)
theorem iv_len (L : List Int) : (iv L).length = L.length := by simp [iv]
theorem iv_get {L : List Int} {k : Nat} (h : k < L.length) : (iv L)[k]? = some (.int .i64 L[k]) := by
  simp [iv, List.getElem?_eq_getElem h]
/-- may o give these back? -/
def Po.okG (S : Po) (o : Int) (L : List Int) : Prop := L.Nodup ∧ ∀ f ∈ L, S.isB o f = true
open Classical in
/-- how Give answers, what it leaves -/
noncomputable def Po.giveV (S : Po) (o : Int) (L : List Int) : Int := if oB o = false then 1 else if S.okG o L then 0 else 25
noncomputable def Po.giveS (S : Po) (o : Int) (L : List Int) : Po := if S.giveV o L = 0 then S.rel (L.map Int.toNat) else S
theorem give_cases (S : Po) (o : Int) (L : List Int) :
    (oB o = false ∧ S.giveV o L = 1 ∧ S.giveS o L = S) ∨ (oB o = true ∧ ((¬ S.okG o L ∧ S.giveV o L = 25 ∧ S.giveS o L = S) ∨ (S.okG o L ∧ S.giveV o L = 0 ∧ S.giveS o L = S.rel (L.map Int.toNat)))) := by
  unfold Po.giveS Po.giveV
  cases h : oB o
  · simp
  · by_cases h2 : S.okG o L <;> simp [h2]
theorem okG_take {S : Po} {o : Int} {L : List Int} (h : S.okG o L) (k : Nat) : S.okG o (L.take k) :=
  ⟨h.1.sublist (List.take_sublist k L), fun f hf => h.2 f (List.mem_of_mem_take hf)⟩
theorem okG_succ {S : Po} {o : Int} {L : List Int} {k : Nat} (hk : k < L.length) (h : S.okG o (L.take k)) (h1 : S.isB o L[k] = true) (h2 : L[k] ∉ L.take k) : S.okG o (L.take (k + 1)) := by
  rw [List.take_succ_eq_append_getElem hk]
  refine ⟨?_, fun f hf => ?_⟩
  · rw [List.nodup_append]
    refine ⟨h.1, by simp, fun a ha b hb => ?_⟩
    obtain rfl := List.mem_singleton.1 hb
    exact fun e => h2 (e ▸ ha)
  · rcases List.mem_append.1 hf with hf | hf
    · exact h.2 f hf
    · obtain rfl := List.mem_singleton.1 hf; exact h1
theorem okG_not1 {S : Po} {o : Int} {L : List Int} {k : Nat} (hk : k < L.length) (h : S.isB o L[k] = false) : ¬ S.okG o L := fun x => by
  have := x.2 _ (List.getElem_mem hk); rw [h] at this; cases this
theorem okG_not2 {S : Po} {o : Int} {L : List Int} {k : Nat} (hk : k < L.length) (h : L[k] ∈ L.take k) : ¬ S.okG o L := fun x => by
  have := (okG_take x (k + 1)).1
  rw [List.take_succ_eq_append_getElem hk, List.nodup_append] at this
  exact this.2.2 _ h _ (List.mem_singleton.2 rfl) rfl
theorem isB_true {S : Po} {o f : Int} (h : S.isB o f = true) : ∃ q : Nat, f = q ∧ q < 256 ∧ 16 ≤ q + 16 := by
  simp only [Po.isB, Bool.and_eq_true] at h
  obtain ⟨q, rfl, hq, _⟩ := hB_true h.1
  exact ⟨q, rfl, hq, by omega⟩
theorem okG_nv {S : Po} {o : Int} {L : List Int} (h : S.okG o L) : nv (L.map Int.toNat) = iv L ∧ ∀ f ∈ L.map Int.toNat, f < 256 := by
  refine ⟨?_, fun f hf => ?_⟩
  · unfold nv iv
    rw [List.map_map]
    apply List.map_congr_left
    intro f hf
    obtain ⟨q, rfl, _⟩ := isB_true (h.2 f hf)
    rfl
  · obtain ⟨x, hx, rfl⟩ := List.mem_map.1 hf
    obtain ⟨q, rfl, hq, _⟩ := isB_true (h.2 x hx)
    exact hq
/-- what Give leaves -/
def Gived (S : Po) (g : Nat) (o : Int) (L : List Int) (w : World) (e : Ending) (w' : World) : Prop :=
  e = .returned (.int .i64 (S.giveV o L)) ∧ IsP w' g (S.giveS o L) ∧ Turn g g w w'
/-- the row of names: which have come already -/
def Named (w : World) (G : Nat) (L : List Int) : Prop := (∀ f, f < 256 → w.cell? ⟨G, f, none⟩ = some (.bool (decide ((f : Int) ∈ L)))) ∧ ∀ i, w.frozen? ⟨G, i, none⟩ = false
theorem Named.new (w : World) : Named (w.alloc (.cells (zc 116) 116)) w.heap.size [] := by
  refine ⟨fun f hf => ?_, fun i => World.frozen?_alloc_new _ _ _ _⟩
  rw [World.cell?_alloc_new, ← Array.getElem?_toList, zcN, reps_one, List.getElem?_replicate, if_pos hf]; simp
theorem Named.set {w : World} {G : Nat} {L : List Int} (h : Named w G L) (q : Nat) (hq : q < 256) : Named (w.setCell ⟨G, q, none⟩ (.bool true)) G (L ++ [(q : Int)]) := by
  refine ⟨fun f hf => ?_, fun i => by rw [World.frozen?_setCell]; exact h.2 i⟩
  by_cases e : f = q
  · subst e; rw [World.cell?_setCell_same _ _ _ (h.1 f hf)]; simp
  · rw [World.cell?_setCell_other _ _ _ _ (by simp <;> omega), h.1 f hf]
    have : ((f : Int) ∈ L ++ [(q : Int)]) ↔ ((f : Int) ∈ L) := by simp; intro h; omega
    simp only [this]
section
variable {g : Nat} {S : Po}
set_option maxRecDepth 100000 in
set_option maxHeartbeats 1000000 in
theorem give_any (o : Int) (A : Option Addr) (n c : Nat) (L : List Int) (hn : n = L.length) (hn2 : n ≤ 1000) (w : World) (hP : IsP w g S) (hR : Rdx w g A (iv L)) :
    Calls Try.prog 63 #[.pointer (some ⟨g, 0, none⟩), .int .i64 o, .slice A n c] w (Gived S g o L w) := by
  have hh := isOwner_any o
  have HP := Lib.hid hP
  have HR := Lib.hid hR
  have HN := Lib.hid hn
  have hz := hP.z
  rcases give_cases S o L with ⟨ho, e1, e2⟩ | ⟨ho, hc⟩
  · unfold Gived
    rw [e1, e2]
    rw [ho] at hh
    have HH := Lib.hid hh
    clear hh hP e1 e2 ho hR hn
    go_enter Try.func63, Try.ntmps63
    go_wp2_with (go_at_call 49; refine (HH.out _).mono ?_; rintro e w' ⟨rfl, rfl⟩)
    go_ret
    exact ⟨rfl, HP.out, Turn.refl _ _ _⟩
  · rw [ho] at hh
    have HH := Lib.hid hh
    have HC := Lib.hid hc
    have hzn := (zero_of_info zeroN).1
    have HW := Lib.hid (Named.new w)
    have HB0 := Lib.hid ((Below.refl w.heap.size w).alloc (Nat.le_refl _) (.cells (zc 116) 116))
    have HZ0 := Lib.hid (show w.heap.size < (w.alloc (.cells (zc 116) 116)).heap.size by simp)
    generalize zc 116 = Z at *
    clear hh hP hc ho hR hn
    go_enter Try.func63, Try.ntmps63
    go_wp2_with (go_at_call 49; refine (HH.out _).mono ?_; rintro e w' ⟨rfl, rfl⟩)
    clear hzn
    generalize w.alloc (.cells Z 116) = W at *
    go_loopw [15] (fun i wr => ∃ k : Nat, k ≤ n ∧ i = .int .i64 k ∧ Hid (S.okG o (L.take k)) ∧ Hid (Named wr w.heap.size (L.take k)) ∧ Hid (Below w.heap.size w wr) ∧ Hid (w.heap.size < wr.heap.size)) (fun i _ => n - (intOf i).toNat)
    case atStart => exact ⟨0, by omega, rfl, Lib.hid ⟨by simp, by simp⟩, HW, HB0, HZ0⟩
    case round =>
      obtain ⟨k, hk, rfl, hO, hW, hB, hZ⟩ := hrel
      have hzz := hZ.out
      by_cases hlt : k < n
      · have hkl : k < L.length := by have := HN.out; omega
        obtain ⟨b, off, rfl, hbg, hb, hc⟩ := HR.out (by rw [iv_len]; omega)
        have hck := (hB.out.cell (p := ⟨b, off + k, none⟩) hb).trans (hc k _ (iv_get hkl))
        have hhd := holds_any o L[k] wr (HP.out.keep (hB.out.block g hz))
        have HKL := Lib.hid hkl
        have hsu := okG_succ hkl hO.out
        have hno1 := okG_not1 (S := S) (o := o) hkl
        have hno2 := okG_not2 (S := S) (o := o) hkl
        have hts : L.take (k + 1) = L.take k ++ [L[k]] := List.take_succ_eq_append_getElem hkl
        have HTS := Lib.hid hts
        clear hc hts
        generalize L[k] = x at *
        clear hkl
        cases hib : S.isB o x
        · rw [hib] at hhd
          have HHD := Lib.hid hhd
          have HNO := Lib.hid (hno1 hib)
          clear hhd hno1 hno2 hsu hib
          go_wp2_with (go_at_call 64; refine HHD.out.mono ?_; rintro e w' ⟨rfl, rfl⟩)
          go_ret
          rcases HC.out with ⟨_, e1, e2⟩ | ⟨h, _⟩
          · exact ⟨ret_i64 e1.symm, by rw [e2]; exact HP.out.keep (hB.out.block g hz), Turn.of_below hB.out⟩
          · exact absurd h HNO.out
        · rw [hib] at hhd
          obtain ⟨q, rfl, hq, _⟩ := isB_true hib
          have hcn := hW.out.1 q hq
          have hfn := hW.out.2 q
          have HHD := Lib.hid hhd
          have hq0 : (0 : Int) ≤ (q : Int) := by omega
          by_cases hmem : (q : Int) ∈ L.take k
          · have HNO := Lib.hid (hno2 hmem)
            rw [decide_eq_true hmem] at hcn
            clear hhd hno1 hno2 hsu hib hmem
            go_wp2_with (go_at_call 64; refine HHD.out.mono ?_; rintro e w' ⟨rfl, rfl⟩)
            go_ret
            rcases HC.out with ⟨_, e1, e2⟩ | ⟨h, _⟩
            · exact ⟨ret_i64 e1.symm, by rw [e2]; exact HP.out.keep (hB.out.block g hz), Turn.of_below hB.out⟩
            · exact absurd h HNO.out
          · rw [decide_eq_false hmem] at hcn
            have HSU := Lib.hid (hsu hib hmem)
            clear hhd hno1 hno2 hsu hib hmem
            go_wp2_with (go_at_call 64; refine HHD.out.mono ?_; rintro e w' ⟨rfl, rfl⟩)
            go_roundw
            case rel =>
              exact ⟨k + 1, by omega, by go_num, HSU, Lib.hid (by rw [HTS.out]; exact hW.out.set q hq), Lib.hid (hB.out.setCell (Nat.le_refl _) _), Lib.hid (by simpa using hZ.out)⟩
            case measure => simp [intOf]; omega
      · obtain rfl : k = n := by omega
        have hok := hO.out
        rw [HN.out, List.take_length] at hok
        rcases HC.out with ⟨h, _⟩ | ⟨_, e1, e2⟩
        · exact absurd hok h
        · have HE := Lib.hid (And.intro e1 e2)
          obtain ⟨q1, q2⟩ := okG_nv hok
          have hrel := release_any (S := S) (g := g) A k c (L.map Int.toNat) (by rw [List.length_map]; exact HN.out) hn2 q2 wr (HP.out.keep (hB.out.block g hz)) (by
            rw [q1]; intro hp
            obtain ⟨b, off, h1, h2, h3, h4⟩ := HR.out hp
            exact ⟨b, off, h1, h2, Nat.lt_of_lt_of_le h3 hB.out.size, fun j u hu => (hB.out.cell (p := ⟨b, off + j, none⟩) h3).trans (h4 j u hu)⟩)
          have HRL := Lib.hid hrel
          unfold Reld at HRL
          clear hk hlt hrel q1 q2 e1 e2 hok
          go_wp2_with (go_at_call 65; refine HRL.out.mono ?_; rintro e w2 ⟨rfl, hp2, ht2⟩; have HP2 := Lib.hid hp2; have HT2 := Lib.hid ht2; clear hp2 ht2)
          go_ret
          exact ⟨ret_i64 HE.out.1.symm, by rw [HE.out.2]; exact HP2.out, (Turn.of_below hB.out).trans HT2.out⟩
end
theorem IsP.far {w : World} {g : Nat} {S : Po} (X : IsP w g S) {p : Addr} (hp : g ≠ p.block) (v : Value) : IsP (w.setCell p v) g S := X.keep (Below.heap_setCell w p v g hp)
/-- a slice of one number that was made for a call -/
theorem one_rdx (w : World) (g : Nat) (hg : g < w.heap.size) (x : Int) (T : TypeId) : Rdx (w.alloc (.cells #[.int .i64 x] T)) g (some ⟨w.heap.size, 0, none⟩) (iv [x]) := fun _ => by
  refine ⟨w.heap.size, 0, rfl, by omega, by simp, fun j u hu => ?_⟩
  rw [(Blk.new w T _).cell, Nat.zero_add]
  simpa [iv] using hu
end Go.Proofs.Ytoejpdhcibbgdaa

/-
  frames: release: A CONTRACT; a slice in another block.
-/
import Derived.Test.YtoejpdhcibbgdaaPq
namespace Go.Proofs.Ytoejpdhcibbgdaa
open Go.RowKit
set_option linter.unusedSimpArgs false
set_option linter.unusedVariables false

/-- the slice at A holds xs, in another block than g -/
def Rdx (w : World) (g : Nat) (A : Option Addr) (xs : List Value) : Prop :=
  0 < xs.length → ∃ b off, A = some ⟨b, off, none⟩ ∧ b ≠ g ∧ b < w.heap.size ∧ ∀ j u, xs[j]? = some u → w.cell? ⟨b, off + j, none⟩ = some u
section
variable {w w' : World} {g : Nat} {A : Option Addr} {xs : List Value}
theorem Rdx.turn (h : Rdx w g A xs) (t : Turn g g w w') : Rdx w' g A xs := fun hn => by
  obtain ⟨b, off, e, h1, h2, h3⟩ := h hn
  exact ⟨b, off, e, h1, Nat.lt_of_lt_of_le h2 t.size, fun j u hu => (t.cell (p := ⟨b, off + j, none⟩) h2 h1 h1).trans (h3 j u hu)⟩
theorem Rdx.below (h : Rdx w g A xs) (hb : Below w.heap.size w w') : Rdx w' g A xs := h.turn (Turn.of_below hb)
theorem Rdx.of_own {B : Nat} {e : TypeId} {n c : Nat} (h : w.ownsRow B e 1 (.slice A n c) n xs) (hg : g < B) : Rdx w g A xs := fun hn => by
  rcases h.2 with ⟨h1, h2⟩ | ⟨b, cap, cur, h1, h2, h3, h4, h5, h6, h7⟩
  · have := h.1; omega
  · simp only [Value.slice.injEq] at h1
    obtain ⟨rfl, _, _⟩ := h1
    refine ⟨b, 0, rfl, by omega, (Array.getElem?_eq_some_iff.1 h3).1, fun j u hu => ?_⟩
    have := h.cells (g := b) rfl j u hu
    have hadd : (⟨b, 0, none⟩ : Addr).add j = ⟨b, 0 + j, none⟩ := by unfold Addr.add; split <;> simp_all
    rw [hadd] at this; exact this
theorem Rdx.of_rd {B : Nat} (h : Rd w B A xs) (hB : B ≤ g) (hg : g < w.heap.size) : Rdx w g A xs := fun hn => by
  obtain ⟨b, off, e, h1, h2⟩ := h hn
  exact ⟨b, off, e, by omega, by omega, h2⟩
end
/-- a frame is given back -/
def Po.rel1 (S : Po) (f : Nat) : Po := { S with own := upd S.own f (-1), byte := upd S.byte f (fun _ => 0) }
def Po.rel (S : Po) (L : List Nat) : Po := L.foldl Po.rel1 S
theorem rel_own (L : List Nat) : ∀ (S : Po) (f : Nat), (S.rel L).own f = if f ∈ L then -1 else S.own f := by
  induction L with
  | nil => intro S f; simp [Po.rel]
  | cons k r ih =>
    intro S f
    have : (S.rel (k :: r)) = (S.rel1 k).rel r := rfl
    rw [this, ih]
    by_cases h : f ∈ r
    · simp [h]
    · by_cases e : f = k
      · subst e; simp [h, Po.rel1]
      · simp [h, e, Po.rel1, upd_other _ _ _ _ e]
theorem rel_prom (L : List Nat) : ∀ (S : Po), (S.rel L).prom = S.prom := by
  induction L with
  | nil => intro S; rfl
  | cons k r ih => intro S; exact ih (S.rel1 k)
theorem rel_take (S : Po) (L : List Nat) (k : Nat) (h : k < L.length) : S.rel (L.take (k + 1)) = (S.rel (L.take k)).rel1 L[k] := by
  unfold Po.rel
  rw [List.take_succ_eq_append_getElem h, List.foldl_append]; rfl
theorem nv_get {L : List Nat} {k : Nat} (h : k < L.length) : (nv L)[k]? = some (.int .i64 (L[k] : Int)) := by
  simp [nv, List.getElem?_eq_getElem h]
theorem frC_one (x : Int) : (frC x).toArray.all (·.oneCell') = true := by
  refine all_oneCell_toArray fun v hv => ?_
  unfold frC at hv
  simp only [List.mem_cons] at hv
  rcases hv with rfl | rfl | hv
  · rfl
  · rfl
  · rw [List.eq_of_mem_replicate hv]; rfl
section
variable {g : Nat} {S : Po}
theorem IsP.there {w : World} (X : IsP w g S) (f : Nat) (hf : f < 256) : w.there g (f * 66) 66 := fun j hj => by
  refine ⟨?_, X.fr _⟩
  match j, hj with
  | 0, _ => rw [Nat.add_zero, X.hd f hf]; rfl
  | 1, _ => rw [X.ow f hf]; rfl
  | j + 2, hj => rw [show f * 66 + (j + 2) = f * 66 + 2 + j by omega, X.bt f hf j (by omega)]; rfl
/-- what release leaves -/
def Reld (S : Po) (g : Nat) (L : List Nat) (w : World) (e : Ending) (w' : World) : Prop :=
  e = .returned (.tuple #[]) ∧ IsP w' g (S.rel L) ∧ Turn g g w w'
set_option maxRecDepth 100000 in
theorem release_any (A : Option Addr) (n c : Nat) (L : List Nat) (hn : n = L.length) (hn2 : n ≤ 1000) (hL : ∀ f ∈ L, f < 256) (w : World) (hP : IsP w g S) (hR : Rdx w g A (nv L)) :
    Calls Try.prog 65 #[.pointer (some ⟨g, 0, none⟩), .slice A n c] w (Reld S g L w) := by
  have HP := Lib.hid hP
  have HR := Lib.hid hR
  have HL := Lib.hid hL
  have HN := Lib.hid hn
  have HF := Lib.hid buildF
  clear hP hR hL hn
  have hsz : (frC (-1)).toArray.size = 66 := by rw [List.size_toArray]; exact frC_len _
  have hto : (frC (-1)).toArray.toList = frC (-1) := List.toList_toArray
  have HSZ := Lib.hid hsz
  have H1 := Lib.hid (frC_one (-1))
  have HSZ2 := Lib.hid (show (Try.prog.info? 82).map (·.size) = some (frC (-1)).toArray.size by rw [hsz]; kernel_rfl)
  have HTO := Lib.hid hto
  generalize (frC (-1)).toArray = Z at *
  clear hsz hto
  go_enter Try.func65, Try.ntmps65
  go_wp2_with fail
  go_loopw [8] (fun i wr => ∃ k : Nat, k ≤ n ∧ i = .int .i64 k ∧ Hid (IsP wr g (S.rel (L.take k))) ∧ Hid (Turn g g w wr)) (fun i _ => n - (intOf i).toNat)
  case atStart => exact ⟨0, by omega, rfl, HP, Lib.hid (Turn.refl _ _ _)⟩
  case round =>
    obtain ⟨k, hk, rfl, hP, hT⟩ := hrel
    by_cases hlt : k < n
    · have hkl : k < L.length := by have := HN.out; omega
      obtain ⟨b, off, rfl, hbg, hb, hc⟩ := (HR.out.turn hT.out) (by rw [nv_len]; omega)
      have hck := hc k _ (nv_get hkl)
      have hf := HL.out L[k] (List.getElem_mem hkl)
      have ht := hP.out.there L[k] hf
      have hs := rel_take S L k hkl
      have HS := Lib.hid hs
      have HKL := Lib.hid hkl
      have hset := hP.out.setFrame L[k] hf (-1) (.inl rfl)
      have HSET := Lib.hid hset
      have HT2 := Lib.hid ht
      clear hc hs ht hset
      generalize L[k] = f at *
      clear hkl
      go_wp2_with (first
        | (refine wpList_build rfl 82 #[] (by rfl) [] (by rfl) (.agg Z) (HF.out _) ?_)
        | (refine wpList_store_mid rfl 82 _ _ rfl g (f * 66) Z (by rfl) (by rfl) (by rw [HSZ.out]; exact HT2.out) HSZ2.out H1.out ?_))
      go_roundw
      case rel =>
        refine ⟨k + 1, by omega, by go_num, ?_, ?_⟩
        · apply Lib.hid
          rw [HS.out, HTO.out]; exact HSET.out
        · exact Lib.hid (hT.out.trans (Turn.setsG _ _ (Turn.refl _ _ _)))
      case measure => simp [intOf]; omega
    · obtain rfl : k = n := by omega
      clear hk hlt
      have hn' := HN.out
      subst hn'
      rw [List.take_length] at hP
      go_wp2
      exact bodyPost_ret (v := .tuple #[]) (by simp [results, Try.results65, go_sem]) rfl ⟨rfl, hP.out, hT.out⟩
end
end Go.Proofs.Ytoejpdhcibbgdaa

/-
  ram: set: A CONTRACT.
-/
import Derived.Test.YtoejpdhcibbgdaaRg
import Derived.Deep.RegionHeld3
namespace Go.Proofs.Ytoejpdhcibbgdaa
open Go.RowKit
set_option linter.unusedSimpArgs false
set_option linter.unusedVariables false

section
variable {w w' : World} {p : Bl} {X : Rm} {S : Po} {T : Ta}
theorem neB_nat {x : Int} {f : Nat} (h : x = f) : neB x = true := by rw [h]; simp [neB]
theorem Inn.put (i : Inn w p X S T) (a f : Nat) (x : Int) (ha : a < X.n * 64) (hf : T.fr (a / 64) = f) (hp : IsP w' p.g (S.put f (a % 64) x)) (ht : Turn p.g p.g w w') : Inn w' p { X with b := upd X.b a x } (S.put f (a % 64) x) T := by
  refine ⟨hp, i.it.turnP ht, i.j.put f (a % 64) x, ok_put i.k f (a % 64) x, i.n, i.mp, fun j hj => ?_⟩
  have hj : j < X.n * 64 := hj
  show upd X.b a x j = btV (S.put f (a % 64) x) T j
  by_cases e : j = a
  · subst e
    rw [upd_same]
    unfold btV
    rw [neB_nat hf, if_pos rfl, hf, Int.toNat_natCast]
    show x = upd S.byte f (upd (S.byte f) (j % 64) x) f (j % 64)
    rw [upd_same, upd_same]
  · rw [upd_other _ _ _ _ e, i.b j hj]
    unfold btV
    split
    · rename_i hm
      show S.byte _ _ = upd S.byte f (upd (S.byte f) (a % 64) x) _ _
      by_cases e2 : (T.fr (j / 64)).toNat = f
      · have h0 : 0 ≤ T.fr (j / 64) := by simpa [neB] using hm
        have := i.j.inj (j / 64) (a / 64) (by rw [i.n]; omega) (by rw [i.n]; omega) h0 (by omega)
        have e3 : j % 64 ≠ a % 64 := by omega
        rw [e2, upd_same, upd_other _ _ _ _ e3]
      · rw [upd_other _ _ _ _ e2]
    · rfl
theorem IsM.setU (x : IsM w p X) (k : Nat) (hk : k < X.n) (b : Bool) : IsM (w.setCell ⟨p.u, k, none⟩ (.bool b)) p { X with tu := upd X.tu k b } := by
  obtain ⟨S, T, i⟩ := x.inn
  have out : ∀ i, i ≠ k → (w.setCell ⟨p.u, k, none⟩ (.bool b)).cell? ⟨p.u, i, none⟩ = w.cell? ⟨p.u, i, none⟩ := fun i hi =>
    World.cell?_setCell_other _ _ _ _ (by simp <;> omega)
  have outM : ∀ i, (w.setCell ⟨p.u, k, none⟩ (.bool b)).cell? ⟨p.m, i, none⟩ = w.cell? ⟨p.m, i, none⟩ := fun i =>
    World.cell?_setCell_other _ _ _ _ (by have := x.mu; simp <;> omega)
  refine ⟨⟨S, T, (i.setU x.gu x.hu x.ru k _).tu _⟩, x.gm, x.hm, x.rm, x.gu, x.hu, x.ru, x.mu, by simpa using x.zm, by simpa using x.zu, (outM _).trans x.c0, (outM _).trans x.c1, (outM _).trans x.c2, fun j hj => ?_, fun j => by rw [World.frozen?_setCell]; exact x.uf j⟩
  show _ = some (Value.bool (upd X.tu k b j))
  by_cases e : j = k
  · subst e; rw [upd_same, World.cell?_setCell_same _ _ _ (x.ut j hj)]
  · rw [upd_other _ _ _ _ e, out _ e]; exact x.ut j hj
theorem IsM.of_inn {f : Nat → Int} (x : IsM w p X) (i : Inn w' p { X with b := f } S T) (t : Turn p.g p.r w w') : IsM w' p { X with b := f } := by
  have e4 := t.block _ x.zm x.gm.symm x.rm.symm
  have e5 := t.block _ x.zu x.gu.symm x.ru.symm
  have c4 : ∀ i, w'.cell? ⟨p.m, i, none⟩ = w.cell? ⟨p.m, i, none⟩ := fun i => by simp only [World.cell?, e4]
  have c5 : ∀ i, w'.cell? ⟨p.u, i, none⟩ = w.cell? ⟨p.u, i, none⟩ := fun i => by simp only [World.cell?, e5]
  exact ⟨⟨S, T, i⟩, x.gm, x.hm, x.rm, x.gu, x.hu, x.ru, x.mu, lt_of_same x.zm e4, lt_of_same x.zu e5, (c4 _).trans x.c0, (c4 _).trans x.c1, (c4 _).trans x.c2, fun k hk => (c5 _).trans (x.ut k hk), fun i => by
    have := x.uf i
    simp only [World.frozen?, e5] at this ⊢; exact this⟩
end
/-- what a call that writes leaves -/
def Left (p : Bl) (Y : Rm) (v : Value) (w : World) (e : Ending) (w' : World) : Prop := e = .returned v ∧ IsM w' p Y ∧ Alt p w w'
section
variable {p : Bl} {X : Rm}
theorem IsM.mid {w w1 : World} (x : IsM w p X) (n : Nat) : w.cell? ⟨p.m, 2, none⟩ = some (.slice (some ⟨p.u, 0, none⟩) X.n X.n) := x.c2
set_option maxRecDepth 100000 in
set_option maxHeartbeats 1000000 in
theorem set_any (a : Nat) (x : Int) (hx : 0 ≤ x ∧ x < 256) (w : World) (hM : IsM w p X) (ha : a < X.n * 64) (h0 : X.mp (a / 64) = true ∨ x = 0) :
    Calls Try.prog 52 #[.pointer (some ⟨p.m, 0, none⟩), .int .u32 a, .int .u8 x] w (Left p (X.w1 a x) (.tuple #[]) w) := by
  have hn := hM.n1
  have hk : a / 64 < X.n := by omega
  have HK := Lib.hid hk
  obtain ⟨S, T, i⟩ := hM.inn
  have hc1 := hM.c1
  have hpg := fun W => pageOf_any a (by omega) W
  have hpl := fun W => placeOf_any a (by omega) W
  have HPG := Lib.hid hpg
  have HPL := Lib.hid hpl
  have hf := fun n => (i.keep (w' := w.drewN n) rfl rfl rfl).frame (a / 64) hk
  have HM := Lib.hid hM
  unfold Left
  cases hm : X.mp (a / 64)
  · have hx0 : x = 0 := by
      rcases h0 with h | h
      · rw [hm] at h; cases h
      · exact h
    have hf1 : ∀ n, Calls Try.prog 45 #[.pointer (some ⟨p.h, 0, none⟩), .int .i64 ((a / 64 : Nat) : Int)] (w.drewN n) fun e w' => e = .returned (.tuple #[.int .i64 0, .bool false]) ∧ w.drewN n = w' := fun n => by
      rcases hf n with ⟨_, h⟩ | ⟨h, _⟩
      · exact h
      · rw [hm] at h; cases h
    have HF := Lib.hid hf1
    have HE := Lib.hid (hM.zero a ha hm)
    have HX := Lib.hid hx0
    clear hpg hpl hf hf1 hm i ha hM h0 hx0 hx
    go_enter Try.func52, Try.ntmps52
    go_wp2_with fail
    go_quiet ((first
      | (go_at_call 46; exact quiet_l (HPG.out _))
      | (go_at_call 45; exact quiet_l (HF.out _))))
    go_wp2_with fail
    generalize hW : w.drewN _ = W
    have HWW := Lib.hid (show ∃ m, w.drewN m = W from ⟨_, hW⟩)
    have HM1 : Hid (IsM W p X) := Lib.hid (by rw [← hW]; exact HM.out.drewN _)
    have d2 := HM1.out.c2
    have d3 := HM1.out.ut (a / 64) HK.out
    have d4 := HM1.out.uf (a / 64)
    clear hW hc1 HF
    have HS := Lib.hid (show IsM (W.setCell ⟨p.u, a / 64, none⟩ (.bool true)).drew p (X.w1 a x) from by
      refine ((HM1.out.setU (a / 64) HK.out true).drewN 1).cast rfl (fun j hj => ?_) (fun _ _ => rfl) (fun _ _ => rfl)
      show upd X.b a x j = X.b j
      by_cases e : j = a
      · subst e; rw [upd_same, HE.out, HX.out]
      · exact upd_other _ _ _ _ e)
    have HA := Lib.hid (show Alt p w (W.setCell ⟨p.u, a / 64, none⟩ (.bool true)).drew from by
      obtain ⟨m, rfl⟩ := HWW.out
      exact ((Alt.of_below (Below_drewN (Below.refl _ _) m)).setU _ _).trans (Alt.of_below (Below.refl _ _).drew))
    generalize X.n = n at *
    generalize X.tu (a / 64) = tt at *
    generalize a / 64 = k at *
    have hne : (⟨p.u, k, none⟩ : Addr) ≠ ⟨p.m, 2, none⟩ := by have := HM1.out.mu; simp <;> omega
    have k0 : (0 : Int) ≤ (k : Int) := by omega
    have k1 : (k : Int) < (n : Int) := by have := HK.out; omega
    go_region_held3 (fun w' => w'.cell? ⟨p.m, 2, none⟩ = some (.slice (some ⟨p.u, 0, none⟩) n n))
      (first
        | exact d2
        | exact (World.cell?_setCell_other _ _ _ _ (by first | exact hne | exact hne.symm)).trans d2)
      ((go_at_call 46; refine (HPG.out _).mono ?_; rintro e w' ⟨rfl, rfl⟩))
    go_wp2
    exact bodyPost_end (v := .tuple #[]) (by simp [results, Try.results52, go_sem]) rfl ⟨rfl, HS.out, HA.out⟩
  · have hm2 := i.mp (a / 64) hk
    obtain ⟨f, hff, f16, f256, hown, _⟩ : ∃ f : Nat, T.fr (a / 64) = f ∧ 16 ≤ f ∧ f < 256 ∧ S.own f = T.o ∧ True := by
      rcases hf 0 with ⟨h, _⟩ | ⟨_, f, h1, h2, h3, h4, _⟩
      · rw [hm] at h; cases h
      · exact ⟨f, h1, h2, h3, h4, trivial⟩
    have hf1 : ∀ n, Calls Try.prog 45 #[.pointer (some ⟨p.h, 0, none⟩), .int .i64 ((a / 64 : Nat) : Int)] (w.drewN n) fun e w' => e = .returned (.tuple #[.int .i64 (f : Int), .bool true]) ∧ w.drewN n = w' := fun n => by
      rcases hf n with ⟨h, _⟩ | ⟨_, q, h1, h2, h3, h4, h5⟩
      · rw [hm] at h; cases h
      · obtain rfl : f = q := by omega
        exact h5
    have hbb := bB_of (S := S) f256 (by rw [hown]; omega) (show a % 64 < 64 by omega)
    have HPUT := Lib.hid (fun (W : World) (hb : Below w.heap.size w W) => put_any (f : Int) ((a % 64 : Nat) : Int) x hx W (i.ip.below hb) hbb)
    simp only [Int.toNat_natCast] at HPUT
    have HINN := Lib.hid (fun (W W' : World) (hb : Below w.heap.size w W) (hp : IsP W' p.g (S.put f (a % 64) x)) (ht : Turn p.g p.g W W') => IsM.of_inn (hM.below hb) ((i.keep (hb.block _ i.ip.z) (hb.block _ i.it.zh) (hb.block _ i.it.zr)).put a f x ha hff hp ht) ht.wide)
    have HF := Lib.hid hf1
    clear hpg hpl hf hf1 hm i ha hM h0 hbb hm2 hff f16 f256 hown
    go_enter Try.func52, Try.ntmps52
    go_wp2_with fail
    go_quiet ((first
      | (go_at_call 46; exact quiet_l (HPG.out _))
      | (go_at_call 45; exact quiet_l (HF.out _))))
    go_wp2_with fail
    generalize hW : w.drewN _ = W
    have HB : Hid (Below w.heap.size w W) := Lib.hid (by rw [← hW]; exact Below_drewN (Below.refl _ _) _)
    have HM1 : Hid (IsM W p X) := Lib.hid (HM.out.below HB.out)
    have d0 := HM1.out.c0
    have hgm := HM1.out.gm.symm
    have hzm := HM1.out.zm
    clear hW hc1 HF HM
    go_region_held3 (fun w' => w'.cell? ⟨p.m, 0, none⟩ = some (.pointer (some ⟨p.g, 0, none⟩)))
      (first
        | exact d0
        | exact (ht1.cell (p := ⟨p.m, 0, none⟩) (by simpa using hzm) hgm hgm).trans d0)
      ((first
        | (go_at_call 48; refine (HPL.out _).mono ?_; rintro e w' ⟨rfl, rfl⟩)
        | (go_at_call 58; refine (HPUT.out _ (by first | exact HB.out | exact HB.out.drew)).mono ?_; rintro e w1 ⟨rfl, hp1, ht1⟩)))
    have HM2 := Lib.hid (HINN.out _ _ (by first | exact HB.out | exact HB.out.drew) hp1 ht1)
    have HA2 := Lib.hid ((Alt.of_below (p := p) HB.out.drew).trans (Alt.of_turnP (p := p) ht1))
    clear hp1 ht1 d0 HINN HPUT
    have d2 : w1.cell? ⟨p.m, 2, none⟩ = some (.slice (some ⟨p.u, 0, none⟩) X.n X.n) := HM2.out.c2
    have d3 : w1.cell? ⟨p.u, a / 64, none⟩ = some (.bool (X.tu (a / 64))) := HM2.out.ut (a / 64) HK.out
    have d4 := HM2.out.uf (a / 64)
    have HS := Lib.hid (show IsM (w1.setCell ⟨p.u, a / 64, none⟩ (.bool true)).drew p (X.w1 a x) from
      ((HM2.out.setU (a / 64) HK.out true).drewN 1).cast rfl (fun _ _ => rfl) (fun _ _ => rfl) (fun _ _ => rfl))
    have HA := Lib.hid (show Alt p w (w1.setCell ⟨p.u, a / 64, none⟩ (.bool true)).drew from
      (HA2.out.setU _ _).trans (Alt.of_below (Below.refl _ _).drew))
    have hne : (⟨p.u, a / 64, none⟩ : Addr) ≠ ⟨p.m, 2, none⟩ := by have := HM1.out.mu; simp <;> omega
    generalize X.n = n at *
    generalize X.tu (a / 64) = tt at *
    generalize a / 64 = k at *
    have k0 : (0 : Int) ≤ (k : Int) := by omega
    have k1 : (k : Int) < (n : Int) := by have := HK.out; omega
    go_wp2_with fail
    go_region_held3 (fun w' => w'.cell? ⟨p.m, 2, none⟩ = some (.slice (some ⟨p.u, 0, none⟩) n n))
      (first
        | exact d2
        | exact (World.cell?_setCell_other _ _ _ _ (by first | exact hne | exact hne.symm)).trans d2)
      ((go_at_call 46; refine (HPG.out _).mono ?_; rintro e w' ⟨rfl, rfl⟩))
    go_wp2
    exact bodyPost_end (v := .tuple #[]) (by simp [results, Try.results52, go_sem]) rfl ⟨rfl, HS.out, HA.out⟩
end
end Go.Proofs.Ytoejpdhcibbgdaa

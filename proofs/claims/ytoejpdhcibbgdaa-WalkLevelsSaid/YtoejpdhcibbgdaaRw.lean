/-
  ram: mapFor, write: A CONTRACT EACH.
-/
import Derived.Test.YtoejpdhcibbgdaaRs
import Derived.Lib.AppendIntMem
namespace Go.Proofs.Ytoejpdhcibbgdaa
open Go.RowKit
set_option linter.unusedSimpArgs false
set_option linter.unusedVariables false

/-- the slice at A holds xs, in a block that no write to the memory reaches -/
def RdM (w : World) (p : Bl) (A : Option Addr) (xs : List Value) : Prop :=
  0 < xs.length → ∃ b off, A = some ⟨b, off, none⟩ ∧ b ≠ p.g ∧ b ≠ p.r ∧ b ≠ p.u ∧ b < w.heap.size ∧ ∀ j u, xs[j]? = some u → w.cell? ⟨b, off + j, none⟩ = some u
/-- bytes, as values -/
def ub (L : List Int) : List Value := L.map (Value.int .u8)
theorem ub_len (L : List Int) : (ub L).length = L.length := by simp [ub]
theorem ub_get {L : List Int} {k : Nat} (h : k < L.length) : (ub L)[k]? = some (.int .u8 (L.getD k 0)) := by
  simp [ub, List.getElem?_eq_getElem h, List.getD]
section
variable {w w' : World} {p : Bl} {X : Rm} {A : Option Addr} {xs : List Value}
theorem RdM.alt (h : RdM w p A xs) (t : Alt p w w') : RdM w' p A xs := fun hn => by
  obtain ⟨b, off, e, h1, h2, h3, h4, h5⟩ := h hn
  exact ⟨b, off, e, h1, h2, h3, Nat.lt_of_lt_of_le h4 t.size, fun j u hu => (t.cell (a := ⟨b, off + j, none⟩) h4 h1 h2 h3).trans (h5 j u hu)⟩
theorem RdM.of_rd {B : Nat} (h : Rd w B A xs) (hg : B ≤ p.g) (hr : B ≤ p.r) (hu : B ≤ p.u) (hB : B ≤ w.heap.size) : RdM w p A xs := fun hn => by
  obtain ⟨b, off, e, h1, h2⟩ := h hn
  exact ⟨b, off, e, by omega, by omega, by omega, by omega, h2⟩
/-- what has been made anew -/
theorem RdM.of_new {b : Nat} {B : Nat} (hb : B ≤ b) (hg : p.g < B) (hr : p.r < B) (hu : p.u < B) (hz : b < w.heap.size) (off : Nat) (h : ∀ j u, xs[j]? = some u → w.cell? ⟨b, off + j, none⟩ = some u) : RdM w p (some ⟨b, off, none⟩) xs := fun _ =>
  ⟨b, off, rfl, by omega, by omega, by omega, hz, h⟩
theorem Alt.then_below {w'' : World} (x : Alt p w w') (hb : Below w.heap.size w' w'') : Alt p w w'' :=
  ⟨hb.os.trans x.os, hb.tape.trans x.tape, hb.output.trans x.output, Nat.le_trans x.size hb.size, fun i hi h1 h2 h3 => (hb.block i hi).trans (x.block i hi h1 h2 h3)⟩
theorem IsM.belowB {B : Nat} (x : IsM w p X) (hb : Below B w w') (z : p.g < B ∧ p.h < B ∧ p.r < B ∧ p.m < B ∧ p.u < B) : IsM w' p X :=
  x.keep (hb.block _ z.1) (hb.block _ z.2.1) (hb.block _ z.2.2.1) (hb.block _ z.2.2.2.1) (hb.block _ z.2.2.2.2)
/-- Map of a page that has no frame -/
theorem IsM.mapNew (x : IsM w p X) (k : Nat) (hk : k < X.n) (h0 : X.mp k = false) :
    ∃ f : Int, Calls Try.prog 56 #[.pointer (some ⟨p.h, 0, none⟩), .int .i64 (k : Int)] w (Left p { X with mp := upd X.mp k true } (.tuple #[.int .i64 f, .int .i64 0]) w) := by
  obtain ⟨S, T, i⟩ := x.inn
  have hkT : k < T.n := by rw [i.n]; exact hk
  have hb : neB (T.fr k) = false := by rw [← i.mp k hk]; exact h0
  obtain ⟨e1, f, e2, e3, e4, l1, l2, l3, _, hj⟩ := map_new i.j i.ip.good i.k i.it.good k hkT hb
  obtain ⟨_, _, _, _, _, _, _, _, _, _, hk2⟩ := map_ok i.j i.ip.good i.k i.it.good k hkT
  rw [e3] at hk2
  refine ⟨(f : Int), (map_any (k : Int) w i.ip i.it).mono ?_⟩
  rintro e w' ⟨rfl, hp, ht, hu⟩
  rw [e3] at hp
  rw [e4] at ht
  refine ⟨by rw [e1, e2], ?_, Alt.of_turn hu⟩
  have hfr : ∀ j, j ≠ k → (T.put k f).fr j = T.fr j := fun j hj => upd_other _ _ _ _ hj
  have hfrk : (T.put k f).fr k = f := upd_same _ _ _
  have e4 := hu.block _ x.zm x.gm.symm x.rm.symm
  have e5 := hu.block _ x.zu x.gu.symm x.ru.symm
  have c4 : ∀ i, w'.cell? ⟨p.m, i, none⟩ = w.cell? ⟨p.m, i, none⟩ := fun i => by simp only [World.cell?, e4]
  have c5 : ∀ i, w'.cell? ⟨p.u, i, none⟩ = w.cell? ⟨p.u, i, none⟩ := fun i => by simp only [World.cell?, e5]
  refine ⟨⟨S.tk f T.o, T.put k f, hp, ht, hj, hk2, i.n, fun j hj2 => ?_, fun a ha => ?_⟩, x.gm, x.hm, x.rm, x.gu, x.hu, x.ru, x.mu, lt_of_same x.zm e4, lt_of_same x.zu e5, (c4 _).trans x.c0, (c4 _).trans x.c1, (c4 _).trans x.c2, fun k hk => (c5 _).trans (x.ut k hk), fun i => by
    have := x.uf i
    simp only [World.frozen?, e5] at this ⊢; exact this⟩
  · show upd X.mp k true j = neB ((T.put k f).fr j)
    by_cases e : j = k
    · subst e; rw [upd_same, hfrk]; simp [neB]
    · rw [upd_other _ _ _ _ e, hfr j e]; exact i.mp j hj2
  · have ha : a < X.n * 64 := ha
    show X.b a = btV (S.tk f T.o) (T.put k f) a
    by_cases e : a / 64 = k
    · rw [x.zero a ha (by rw [e]; exact h0)]
      unfold btV
      rw [e, hfrk, Int.toNat_natCast]
      split
      · show (0 : Int) = upd S.byte f (fun _ => 0) f (a % 64)
        rw [upd_same]
      · rfl
    · rw [i.b a ha]
      unfold btV
      rw [hfr _ e]
      split
      · rename_i hm
        have h0 : 0 ≤ T.fr (a / 64) := by simpa [neB] using hm
        obtain ⟨q, hq, _, _, hq3⟩ := i.j.held i.it.good (a / 64) (by rw [i.n]; omega) h0
        have hne : q ≠ f := fun e => by
          subst e; rw [hq3] at l3; simp [neB] at l3
        rw [hq, Int.toNat_natCast]
        show S.byte q _ = upd S.byte f (fun _ => 0) q _
        rw [upd_other _ _ _ _ hne]
      · rfl
end
section
variable {p : Bl} {X : Rm}
set_option maxRecDepth 100000 in
set_option maxHeartbeats 1000000 in
theorem mapFor_any (a : Nat) (A : Option Addr) (N c0 : Nat) (L : List Int) (hN : N = L.length) (w : World) (hM : IsM w p X) (hR : RdM w p A (ub L)) (ha : a + N ≤ X.n * 64) :
    Calls Try.prog 51 #[.pointer (some ⟨p.m, 0, none⟩), .int .u32 a, .slice A N c0] w (Left p (X.ms a L N) (.int .i64 0) w) := by
  have hn := hM.n1
  have HM := Lib.hid hM
  have HR := Lib.hid hR
  have HN := Lib.hid hN
  obtain ⟨zg, zh, zr, zm, zu⟩ := hM.z
  have HZ := Lib.hid (And.intro zg (And.intro zr zu))
  have HZ5 := Lib.hid hM.z
  have ha2 : a + N ≤ 4096 := by omega
  have HX := Lib.hid ha
  clear hM hR hN zg zh zr zm zu ha hn
  unfold Left
  go_enter Try.func51, Try.ntmps51
  go_wp2_with fail
  go_loopw [7, 17] (fun v i wr => ∃ (k : Nat) (A2 : Option Addr) (c n : Nat) (vs : List Value), k ≤ N ∧ n ≤ k ∧ i = .int .i64 k ∧ v = .slice A2 n c ∧ Hid (wr.ownsRow w.heap.size 3 1 (.slice A2 n c) n vs) ∧ Hid (IsM wr p (X.ms a L k)) ∧ Hid (Alt p w wr)) (fun _ i _ => N - (intOf i).toNat)
  case atStart => exact ⟨0, none, 0, 0, [], by omega, by omega, rfl, rfl, World.ownsRow_nil _ _ _ _, HM, Alt.refl _ _⟩
  case round =>
    obtain ⟨k, A2, c, n, vs, hk, hnk, rfl, rfl, hO, hMk, hA⟩ := hrel
    have hz := hA.out.size
    by_cases hlt : k < N
    · have hkl : k < L.length := by have := HN.out; omega
      obtain ⟨b, off, rfl, b1, b2, b3, b4, hc⟩ := (HR.out.alt hA.out) (by rw [ub_len]; omega)
      have hck := hc k _ (ub_get hkl)
      have hc1 := hMk.out.c1
      have hq2 : (a + k) / 64 < (X.ms a L k).n := by rw [ms_n]; have := HX.out; omega
      have hpg := fun W => pageOf_any (a + k) (by omega) W
      obtain ⟨f, hfr⟩ := hMk.out.frame _ hq2
      have hmap := fun h => hMk.out.mapNew _ hq2 h
      have hms : X.ms a L (k + 1) = (X.ms a L k).m1 (a + k) (L.getD k 0) := rfl
      unfold Rm.m1 at hms
      generalize (a + k) / 64 = q at *
      generalize L.getD k 0 = x at *
      generalize hY : X.ms a L k = Y at *
      rw [Int.natCast_add] at hpg
      have HPG := Lib.hid hpg
      have HF := Lib.hid hfr
      have HMS := Lib.hid hms
      have HMAP := Lib.hid hmap
      have i1 : (k : Int) < (N : Int) := by omega
      have i2 : (a : Int) + (k : Int) < 4096 := by omega
      clear hc hpg hfr hms hmap hY hkl b1 b2 b3 b4 hq2
      by_cases hx : x = 0
      · have e0 : X.ms a L (k + 1) = Y := by
          rw [HMS.out, hx]
          have : upd Y.mp q (Y.mp q || decide ((0 : Int) ≠ 0)) = Y.mp := by
            funext j; unfold upd; split
            · rename_i h; subst h; simp
            · rfl
          rw [this]
        have HE := Lib.hid e0
        have hx2 : decide (x = 0) = true := by simpa using hx
        clear e0
        subst hx
        go_wp2_with (first
          | (go_at_call 46; refine (HPG.out _).mono ?_; rintro e w' ⟨rfl, rfl⟩)
          | (go_at_call 45; refine HF.out.mono ?_; rintro e w' ⟨rfl, rfl⟩))
        go_roundw
        case rel => exact ⟨k + 1, A2, c, n, vs, by omega, by omega, by go_num, rfl, hO, by rw [HE.out]; exact hMk, hA⟩
        case measure => simp [intOf]; omega
      · cases hb : Y.mp q
        · rw [hb] at HF
          obtain ⟨f2, hmp⟩ := HMAP.out hb
          have HMP := Lib.hid hmp
          have e0 : X.ms a L (k + 1) = { Y with mp := upd Y.mp q true } := by
            rw [HMS.out, hb, decide_eq_true hx]; rfl
          have HE := Lib.hid e0
          have hx2 : (x == 0) = false := by simpa using hx
          clear e0 hmp hb HMAP hx
          go_wp2_with (first
            | (go_at_call 46; refine (HPG.out _).mono ?_; rintro e w' ⟨rfl, rfl⟩)
            | (go_at_call 45; refine HF.out.mono ?_; rintro e w' ⟨rfl, rfl⟩)
            | (go_at_call 56; refine HMP.out.mono ?_; rintro e w1 ⟨rfl, hm1, ha1⟩
               have HM1 := Lib.hid hm1
               have HA1 := Lib.hid ha1
               have HO1 := Lib.hid (((own_kept hO.out (fun g hg => ha1.block g (hO.out.lt g hg).2 (by have := (hO.out.lt g hg).1; have := HZ.out; omega) (by have := (hO.out.lt g hg).1; have := HZ.out; omega) (by have := (hO.out.lt g hg).1; have := HZ.out; omega))).alloc (.cells #[.int .i64 q] 3)))
               have hz1 := ha1.size
               clear HMP hm1 ha1)
            | (at_builtin
               refine wpList_app rfl (.tmp 56) (.tmp 58) _ rfl w.heap.size 3 _ 1 8 Try.underlying43 Try.info_int rfl (by omega) (.slice A2 n c) n vs rfl HO1.out w1.heap.size 1 1 _ _ _ rfl (heap_alloc_new w1 (.cells #[.int .i64 q] 3)) rfl (by simp [Value.oneCell']) (by omega) (by unfold maxLen; omega) (by omega) (by simp; omega) ?_
               intro g2 cap2 w2 hext2
               have HX2 := Lib.hid hext2
               clear hext2))
          go_roundw
          case rel =>
            have hb2 : Below w.heap.size (w1.alloc (.cells #[.int .i64 q] 3)) w2 := HX2.out.below (by simp; omega) HO1.out
            have hb3 : Below w.heap.size w1 w2 := ((Below.refl _ _).alloc (by omega) _).trans hb2
            refine ⟨k + 1, some ⟨g2, 0, none⟩, cap2, n + 1, _, by omega, by omega, by go_num, rfl, Lib.hid HX2.out.own, ?_, ?_⟩
            · rw [HE.out]; exact Lib.hid (HM1.out.belowB hb3 HZ5.out)
            · exact Lib.hid ((hA.out.trans HA1.out).then_below hb3)
          case measure => simp [intOf]; omega
        · rw [hb] at HF
          have e0 : X.ms a L (k + 1) = Y := by
            rw [HMS.out, hb]
            have : upd Y.mp q (true || decide (x ≠ 0)) = Y.mp := by
              funext j; unfold upd; split
              · rename_i h; subst h; simp [hb]
              · rfl
            rw [this]
          have HE := Lib.hid e0
          have hx2 : (x == 0) = false := by simpa using hx
          clear e0 hb HMAP hx
          go_wp2_with (first
            | (go_at_call 46; refine (HPG.out _).mono ?_; rintro e w' ⟨rfl, rfl⟩)
            | (go_at_call 45; refine HF.out.mono ?_; rintro e w' ⟨rfl, rfl⟩))
          go_roundw
          case rel => exact ⟨k + 1, A2, c, n, vs, by omega, by omega, by go_num, rfl, hO, by rw [HE.out]; exact hMk, hA⟩
          case measure => simp [intOf]; omega
    · obtain rfl : k = N := by omega
      clear hk hlt
      go_wp2
      go_ret
      exact ⟨rfl, hMk.out, hA.out⟩
set_option maxRecDepth 100000 in
theorem write_any (a : Nat) (A : Option Addr) (N c0 : Nat) (L : List Int) (hN : N = L.length) (hL : ∀ x ∈ L, 0 ≤ x ∧ x < 256) (w : World) (hM : IsM w p X) (hR : RdM w p A (ub L)) (ha : a + N ≤ X.n * 64) :
    Calls Try.prog 41 #[.pointer (some ⟨p.m, 0, none⟩), .int .u32 a, .slice A N c0] w (Left p (X.wr a L) (.int .i64 0) w) := by
  have hn := hM.n1
  have HF := Lib.hid (mapFor_any a A N c0 L hN w hM hR ha)
  have HR := Lib.hid hR
  have HN := Lib.hid hN
  have HL := Lib.hid hL
  have ha2 : a + N ≤ 4096 := by omega
  have HX := Lib.hid ha
  clear hM hR hN ha hn hL
  have e : X.wr a L = (X.ms a L N).ws a L N := by rw [HN.out]; rfl
  rw [e]
  have HMP := Lib.hid (fun k => ms_mp X a L k N)
  have HMN := Lib.hid (ms_n X a L N)
  generalize X.ms a L N = Y at *
  clear e
  unfold Left at HF ⊢
  go_enter Try.func41, Try.ntmps41
  go_wp2_with (go_at_call 51; refine HF.out.mono ?_; rintro e w1 ⟨rfl, hm1, ha1⟩; have HM1 := Lib.hid hm1; have HA1 := Lib.hid ha1; clear HF hm1 ha1)
  go_loopw [19] (fun i wr => ∃ k : Nat, k ≤ N ∧ i = .int .i64 k ∧ Hid (IsM wr p (Y.ws a L k)) ∧ Hid (Alt p w wr)) (fun i _ => N - (intOf i).toNat)
  case atStart => exact ⟨0, by omega, rfl, HM1, HA1⟩
  case round =>
    obtain ⟨k, hk, rfl, hMk, hA⟩ := hrel
    by_cases hlt : k < N
    · have hkl : k < L.length := by have := HN.out; omega
      obtain ⟨b, off, rfl, b1, b2, b3, b4, hc⟩ := (HR.out.alt hA.out) (by rw [ub_len]; omega)
      have hck := hc k _ (ub_get hkl)
      have hx : 0 ≤ L.getD k 0 ∧ L.getD k 0 < 256 := by
        have : L.getD k 0 = L[k] := by simp [List.getD, List.getElem?_eq_getElem hkl]
        rw [this]; exact HL.out _ (List.getElem_mem hkl)
      have hbd : a + k < (Y.ws a L k).n * 64 := by rw [ws_n, HMN.out]; have := HX.out; omega
      have hset := set_any (a + k) (L.getD k 0) hx wr hMk.out hbd (by
        rw [ws_mp]
        by_cases e : L.getD k 0 = 0
        · exact .inr e
        · exact .inl ((HMP.out _).2 (.inr ⟨k, hlt, rfl, e⟩)))
      have e1 : (Y.ws a L k).w1 (a + k) (L.getD k 0) = Y.ws a L (k + 1) := rfl
      rw [e1, Int.natCast_add] at hset
      have HS := Lib.hid hset
      have i1 : (k : Int) < (N : Int) := by omega
      have i2 : (a : Int) + (k : Int) < 4096 := by omega
      generalize L.getD k 0 = x at *
      clear hc b1 b2 b3 b4 hset hbd e1 hkl
      unfold Left at HS
      go_wp2_with (go_at_call 52; refine HS.out.mono ?_; rintro e w2 ⟨rfl, hm2, ha2⟩; have HM2 := Lib.hid hm2; have HA2 := Lib.hid ha2; clear HS hm2 ha2)
      go_roundw
      case rel => exact ⟨k + 1, by omega, by go_num, HM2, Lib.hid (hA.out.trans HA2.out)⟩
      case measure => simp [intOf]; omega
    · obtain rfl : k = N := by omega
      clear hk hlt
      go_wp2
      go_ret
      exact ⟨rfl, hMk.out, hA.out⟩
end
end Go.Proofs.Ytoejpdhcibbgdaa

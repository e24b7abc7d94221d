/-
  innkeeperlaw8.WalkNumbers returns true: its walk.
-/
import Derived.Test.YtoejpdhcibbgdaaWalkWalkTells
import Derived.OpenShut
import Derived.WalkArith
import Derived.Outline
namespace Go.Proofs.Ytoejpdhcibbgdaa
open Go.RowKit
set_option linter.unusedSimpArgs false
set_option linter.unusedVariables false

/-- a literal of four entries -/
def lit4 (b c : Int) : List Ap := [⟨0, 1, 257⟩, ⟨1, 9, 257⟩, ⟨16, 2, b⟩, ⟨17, 9, c⟩]
def litC (b c : Int) : Array Value := #[.int .i64 0, .int .i64 1, .int .u32 257, .int .i64 1, .int .i64 9, .int .u32 257, .int .i64 16, .int .i64 2, .int .u32 b, .int .i64 17, .int .i64 9, .int .u32 c]
theorem lit4_rd {w : World} {g : Nat} {t : TypeId} {b c : Int} (h : Blk w g t (litC b c)) : RdP w (some ⟨g, 0, none⟩) (lit4 b c) := fun _ => by
  refine ⟨g, 0, rfl, h.lt, fun i hi j u hu => ?_⟩
  have hi : i < 4 := hi
  rcases (show i = 0 ∨ i = 1 ∨ i = 2 ∨ i = 3 by omega) with rfl | rfl | rfl | rfl
  all_goals
    have hj : j < 3 := (List.getElem?_eq_some_iff.1 hu).1
    rcases (show j = 0 ∨ j = 1 ∨ j = 2 by omega) with rfl | rfl | rfl
    all_goals
      cases hu
      exact (h.cell _)
theorem lit4_in {b c : Int} (hb : (Lit.int .u32 b).wf = true) (hc : (Lit.int .u32 c).wf = true) : ∀ q ∈ lit4 b c, q.In := by
  intro q hq
  simp only [lit4, List.mem_cons, List.not_mem_nil, or_false] at hq
  rcases hq with rfl | rfl | rfl | rfl
  · exact ⟨rfl, rfl, rfl⟩
  · exact ⟨rfl, rfl, rfl⟩
  · exact ⟨rfl, rfl, hb⟩
  · exact ⟨rfl, rfl, hc⟩
/-- tables and both, of such a literal -/
theorem lit_tables (b c : Int) (hb : (Lit.int .u32 b).wf = true) (hc : (Lit.int .u32 c).wf = true) (w : World) (t : TypeId) :
    Calls Try.prog 12 #[.slice (some ⟨w.heap.size, 0, none⟩) 4 4] (w.alloc (.cells (litC b c) t)) fun e w' => ∃ g L, e = .returned (.slice (some ⟨g, 0, none⟩) 512 512) ∧ L.length = 512 ∧ (∀ x ∈ L, 0 ≤ x ∧ x < 256) ∧ Rd w' w'.heap.size (some ⟨g, 0, none⟩) (ub L) ∧ Below w.heap.size w w' := by
  have hb0 : Below w.heap.size w (w.alloc (.cells (litC b c) t)) := (Below.refl _ _).alloc (Nat.le_refl _) _
  refine (tables_any (some ⟨w.heap.size, 0, none⟩) 4 4 (lit4 b c) rfl (by omega) _ (lit4_rd (Blk.new w t (litC b c))) (lit4_in hb hc)).mono ?_
  rintro e w' ⟨g, rfl, hg, hB, hbl⟩
  exact ⟨g, rowL (tbF (lit4 b c) (min 4 40)) 512, rfl, rowL_len _ _, rowL_mem fun j _ => tbF_bd (lit4_in hb hc) _ (by show min 4 40 ≤ 4; omega) j, hB.rd, hb0.trans (hbl.mono hb0.size)⟩
/-- same, and what it leaves alone -/
theorem same8_keep {n : Nat} {wa w : World} {p : Bl} {q b t : Nat} (h : Both8 n wa p q b t w) (r v : Nat) (hr : r < 4294967296) (hv : v < 4294967296) (k : Int) (s : Bool) :
    Calls Try.prog 13 #[.pointer (some ⟨p.m, 0, none⟩), .pointer (some ⟨q, 0, none⟩), .int .u32 r, .int .u32 v, .int .i64 k, .bool s] w fun e w' => e = .returned (.bool true) ∧ Both8 n wa p q b t w' ∧ ∀ i, i < w.heap.size → p.Off i → b ≠ i → t ≠ i → w'.heap[i]? = w.heap[i]? := by
  obtain ⟨X, hn, hP⟩ := h
  refine (same8_any r v hr hv k s w (Nat.le_refl _) hP).mono ?_
  rintro e w' ⟨rfl, h2⟩
  exact ⟨rfl, ⟨X.doS r v k s, by rw [doS_n]; exact hn, hP.trans h2⟩, h2.k⟩
/-- a block that lies apart -/
structure Far (p : Bl) (b t : Nat) (w : World) (g : Nat) (ty : TypeId) (cs : Array Value) : Prop where
  blk : Blk w g ty cs
  o : p.Off g
  hb : b ≠ g
  ht : t ≠ g
theorem Far.kept {p : Bl} {b t : Nat} {w w' : World} {g : Nat} {ty : TypeId} {cs : Array Value} (h : Far p b t w g ty cs) (k : ∀ i, i < w.heap.size → p.Off i → b ≠ i → t ≠ i → w'.heap[i]? = w.heap[i]?) : Far p b t w' g ty cs :=
  ⟨(k g h.blk.lt h.o h.hb h.ht).trans h.blk, h.o, h.hb, h.ht⟩
theorem Both8.keep {n : Nat} {wa w w' : World} {p : Bl} {q b t : Nat} (h : Both8 n wa p q b t w) (hb : Below w.heap.size w w') : Both8 n wa p q b t w' := by
  obtain ⟨X, hn, hP⟩ := h
  exact ⟨X, hn, hP.keep (Nat.le_refl _) hb⟩
theorem Far.new {n : Nat} {wa w : World} {p : Bl} {q b t : Nat} (h : Both8 n wa p q b t w) (ty : TypeId) (cs : Array Value) : Far p b t (w.alloc (.cells cs ty)) w.heap.size ty cs := by
  obtain ⟨X, hn, hP⟩ := h
  have z := hP.u.z
  exact ⟨Blk.new w ty cs, hP.d.m.off (Nat.le_refl _), by omega, by omega⟩
def vas : List Nat := [0, 63, 64, 65, 128, 1024, 2048, 16383, 16384, 4294967295]
def vasC : Array Value := #[.int .u32 0, .int .u32 63, .int .u32 64, .int .u32 65, .int .u32 128, .int .u32 1024, .int .u32 2048, .int .u32 16383, .int .u32 16384, .int .u32 4294967295]
theorem vas_at (i : Nat) (h : i < 10) : ∃ v : Nat, v < 4294967296 ∧ vasC[i]? = some (.int .u32 (v : Int)) := by
  rcases (show i = 0 ∨ i = 1 ∨ i = 2 ∨ i = 3 ∨ i = 4 ∨ i = 5 ∨ i = 6 ∨ i = 7 ∨ i = 8 ∨ i = 9 by omega) with rfl | rfl | rfl | rfl | rfl | rfl | rfl | rfl | rfl | rfl
  · exact ⟨0, by omega, rfl⟩
  · exact ⟨63, by omega, rfl⟩
  · exact ⟨64, by omega, rfl⟩
  · exact ⟨65, by omega, rfl⟩
  · exact ⟨128, by omega, rfl⟩
  · exact ⟨1024, by omega, rfl⟩
  · exact ⟨2048, by omega, rfl⟩
  · exact ⟨16383, by omega, rfl⟩
  · exact ⟨16384, by omega, rfl⟩
  · exact ⟨4294967295, by omega, rfl⟩
set_option maxRecDepth 100000 in
set_option maxHeartbeats 1000000 in
theorem walkNumbers_walk (w : World) :
    Calls Try.prog 3 #[] w fun e w' => e = .returned (.bool true) ∧ Below w.heap.size w w' := by
  go_enter Try.func3, Try.ntmps3
  go_wp2_with fail
  go_loopw [1] (fun i wr => ∃ kd : Int, -1 ≤ kd ∧ kd ≤ 5 ∧ i = .int .i64 kd ∧ Hid (Below w.heap.size w wr)) (fun i _ => (5 - intOf i).toNat)
  case atStart => exact ⟨-1, by omega, by omega, rfl, Lib.hid (Below.refl _ _)⟩
  case round =>
    obtain ⟨kd, hk0, hk5, rfl, hW⟩ := hrel
    by_cases hlt : kd < 5
    · obtain ⟨BT, hb1, hb2⟩ : ∃ BT : Bool → Int, (∀ s w, Calls Try.prog 9 #[.int .i64 kd, .bool s] w fun e w' => e = .returned (.int .u32 (BT s)) ∧ w = w') ∧ (∀ s w, Calls Try.prog 10 #[.int .i64 kd, .bool s] w fun e w' => e = .returned (.int .u32 (BT s)) ∧ w = w') :=
        ⟨fun s => ((btN kd s : Nat) : Int), fun s w => bits_any kd s w, fun s w => rbits_any kd s w⟩
      have HF := Lib.hid (fault_any kd)
      have HRF := Lib.hid (rfault_any kd)
      have HB := Lib.hid hb1
      have HRB := Lib.hid hb2
      clear hb1 hb2
      generalize ftV kd = F at *
      rcases (show kd < 1 ∨ (1 ≤ kd ∧ kd ≤ 3) ∨ (1 ≤ kd ∧ 3 < kd) by omega) with hc | hc | hc
      all_goals
        try obtain ⟨hc, hc2⟩ := hc
        go_wp2_with (first
          | (go_at_call 7; refine (HF.out _).mono ?_; rintro e w' ⟨rfl, rfl⟩)
          | (go_at_call 8; refine (HRF.out _).mono ?_; rintro e w' ⟨rfl, rfl⟩)
          | (go_at_call 9; refine (HB.out _ _).mono ?_; rintro e w' ⟨rfl, rfl⟩)
          | (go_at_call 10; refine (HRB.out _ _).mono ?_; rintro e w' ⟨rfl, rfl⟩))
        clear HF HRF HB HRB
        go_loopw [2] (fun i wr2 => ∃ bt : Int, 0 ≤ bt ∧ bt ≤ 130 ∧ i = .int .u32 bt ∧ Hid (Below w.heap.size w wr2)) (fun i _ => (130 - intOf i).toNat)
        case atStart => exact ⟨0, by omega, by omega, rfl, hW⟩
        case round =>
          clear hW
          obtain ⟨bt, hb0, hb130, rfl, hW⟩ := hrel
          by_cases hl2 : bt < 128
          · have hwb : (Lit.int .u32 bt).wf = true := WalkArith.wf_u32 ⟨hb0, by omega⟩
            have htab := lit_tables bt (bits .or .u32 256 bt) hwb (wf_bits _ _ _ _) wr 32
            unfold litC at htab
            generalize hcc : bits .or .u32 256 bt = cc at *
            have HTB := Lib.hid htab
            clear htab hwb
            go_wp2_with (first
              | (go_at_call 12
                 refine HTB.out.mono ?_
                 rintro e wa ⟨g, L, rfl, hl, hL, hR, hba⟩
                 have HL := Lib.hid (And.intro hl (And.intro hL hR))
                 have HA := Lib.hid (hW.out.trans (hba.mono hW.out.size))
                 clear hl hL hR hba HTB)
              | (go_at_call 11
                 refine (both_row HL.out.1 HL.out.2.1 g wa HL.out.2.2).mono ?_
                 rintro e wb ⟨p, q, b, t, X, rfl, hn, hP⟩
                 have HP := Lib.hid (show Both8 8 wa p q b t wb from ⟨X, hn, hP⟩)
                 clear hn hP HL))
            have hf := Far.new HP.out 23 vasC
            have hp2 := HP.out.keep ((Below.refl _ _).alloc (Nat.le_refl _) (.cells vasC 23))
            unfold vasC at hp2
            have HFAR := Lib.hid (show Far p b t (wb.alloc (.cells #[.int .u32 0, .int .u32 63, .int .u32 64, .int .u32 65, .int .u32 128, .int .u32 1024, .int .u32 2048, .int .u32 16383, .int .u32 16384, .int .u32 4294967295] 23)) wb.heap.size 23 vasC from hf)
            have HP2 := Lib.hid hp2
            clear hf hp2 HP
            generalize wb.alloc (.cells #[.int .u32 0, .int .u32 63, .int .u32 64, .int .u32 65, .int .u32 128, .int .u32 1024, .int .u32 2048, .int .u32 16383, .int .u32 16384, .int .u32 4294967295] 23) = wc at *
            generalize wb.heap.size = gl at *
            go_loopw [63] (fun i wr3 => ∃ n : Nat, n ≤ 10 ∧ i = .int .i64 n ∧ Hid (Both8 8 wa p q b t wr3) ∧ Hid (Far p b t wr3 gl 23 vasC)) (fun i _ => 10 - (intOf i).toNat)
            case atStart => exact ⟨0, by omega, rfl, HP2, HFAR⟩
            case round =>
              clear HP2 HFAR
              obtain ⟨n, hn, rfl, hP, hF⟩ := hrel
              by_cases hl3 : n < 10
              · obtain ⟨v, hv, hcv⟩ := vas_at n hl3
                have hck := hF.out.blk.cell n
                rw [hcv] at hck
                have i1 : (n : Int) < 10 := by omega
                have HS1 := Lib.hid (fun s => same8_keep hP.out 0 v (by omega) hv kd s)
                have HS2 := Lib.hid (fun W (h : Both8 8 wa p q b t W) => same8_keep h 63 v (by omega) hv kd true)
                have HN := Lib.hid hl3
                clear hcv hv hl3 hn
                generalize (v : Int) = V at *
                go_wp2_with (first
                  | (go_at_call 13
                     refine (HS1.out _).mono ?_
                     rintro e w5 ⟨rfl, h1, h2⟩
                     have HP5 := Lib.hid h1
                     have HF5 := Lib.hid (hF.out.kept h2)
                     clear h1 h2 HS1 hP hF)
                  | (go_at_call 13
                     refine (HS2.out _ HP5.out).mono ?_
                     rintro e w6 ⟨rfl, h1, h2⟩
                     have HP6 := Lib.hid h1
                     have HF6 := Lib.hid (HF5.out.kept h2)
                     clear h1 h2 HS2 HP5 HF5))
                go_roundw
                case rel => exact ⟨n + 1, by have := HN.out; omega, by go_num, HP6, HF6⟩
                case measure => have := HN.out; simp [intOf]; omega
              · obtain rfl : n = 10 := by omega
                have hbb := hP.out.below
                have HB := Lib.hid (HA.out.trans (hbb.mono HA.out.size))
                clear hbb hl3 hn hP hF HA
                go_wp2_with fail
                go_roundw
                case rel => exact ⟨bt + 3, by omega, by omega, by go_num, HB⟩
                case measure => simp [intOf]; omega
          · have hl3 : (128 : Int) ≤ bt := by omega
            clear hl2
            go_wp2_with fail
            go_roundw
            case rel => exact ⟨kd + 1, by omega, by omega, by go_num, hW⟩
            case measure => simp [intOf]; omega
    · have hk6 : (5 : Int) ≤ kd := by omega
      clear hlt
      have HS1 := Lib.hid (fun (wa : World) (p : Bl) (q b t : Nat) W (h : Both8 1 wa p q b t W) => same8_keep h 64 0 (by omega) (by omega) 2 true)
      have HS2 := Lib.hid (fun (wa : World) (p : Bl) (q b t : Nat) W (h : Both8 1 wa p q b t W) => same8_keep h 4294967232 65535 (by omega) (by omega) 1 false)
      go_wp2_with (first
        | (go_at_call 11
           refine (both_any none 0 0 1 [] rfl (by simp) (by omega) (by omega) (by omega) wr (fun hn => absurd hn (by simp [ub]))).mono ?_
           rintro e wb ⟨p, q, b, t, rfl, hP⟩
           have HP := Lib.hid (show Both8 1 wr p q b t wb from ⟨_, bt_n 1 [], hP⟩)
           clear hP)
        | (go_at_call 14
           refine (show Calls Try.prog 14 #[.pointer none, .int .u32 0, .int .u32 7, .int .i64 2, .bool true] wb fun e w' => e = .returned (.tuple #[.agg #[.bool false, .int .u32 0, .int .u32 0, .int .u32 0], .agg #[.int .i64 10, .int .u32 7]]) ∧ Below wb.heap.size wb w' from do_nil 0 7 2 true wb).mono ?_
           rintro e w2 ⟨rfl, hb2⟩
           have HP2 := Lib.hid (HP.out.keep hb2)
           clear hb2 HP)
        | (go_at_call 13
           have hb3 := ((Below.refl _ _).alloc (Nat.le_refl w2.heap.size) (.cells #[.bool false, .int .u32 0, .int .u32 0, .int .u32 0] 37))
           have hF := Far.new (HP2.out.keep hb3) 39 #[.int .i64 10, .int .u32 7]
           have hP3 := (HP2.out.keep hb3).keep ((Below.refl _ _).alloc (Nat.le_refl _) (.cells #[.int .i64 10, .int .u32 7] 39))
           have hs3 : (w2.alloc (.cells #[.bool false, .int .u32 0, .int .u32 0, .int .u32 0] 37)).heap.size = w2.heap.size + 1 := by simp
           rw [hs3] at hF
           refine (HS1.out _ _ _ _ _ _ hP3).mono ?_
           rintro e w5 ⟨rfl, h1, h2⟩
           have HP5 := Lib.hid h1
           have HF5 := Lib.hid (hF.kept h2)
           clear hb3 hF hP3 hs3 h1 h2 HS1 HP2)
        | (go_at_call 13
           refine (HS2.out _ _ _ _ _ _ HP5.out).mono ?_
           rintro e w6 ⟨rfl, h1, h2⟩
           have HP6 := Lib.hid h1
           have hF6 := HF5.out.kept h2
           have k0 := hF6.blk.cell 0
           have k1 := hF6.blk.cell 1
           clear h1 h2 HS2 HP5 HF5 hF6)
        | (go_at_call 15; refine (known8_any _).mono ?_; rintro e wk ⟨rfl, hk⟩; have HK := Lib.hid hk; clear hk))
      go_ret
      have hz := hW.out.size
      have hbb := hW.out.trans (HP6.out.below.mono hz)
      exact ⟨rfl, hbb.trans (HK.out.mono hbb.size)⟩
end Go.Proofs.Ytoejpdhcibbgdaa

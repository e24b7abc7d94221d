/-
  hmach's New, Reg, SetReg, Word, SetWord, At, Words, innkeeperref4.New: A CONTRACT EACH.
-/
import Derived.Test.YtaghblcboimbpaaMs
import Derived.Deep.OwnRows
namespace Go.Proofs.Ytaghblcboimbpaa
open Go.RowKit
set_option linter.unusedSimpArgs false
set_option linter.unusedVariables false

/-- a new machine -/
def mc0 (n : Nat) : Mc := ⟨List.replicate 16 0, List.replicate n 0, [], 0⟩
theorem mc0_good (n : Nat) (h0 : 1 ≤ n) (h1 : n ≤ 65536) : (mc0 n).Good := by
  refine ⟨by simp [mc0], fun x hx => ?_, by simp [mc0]; omega, by simp [mc0]; omega, fun x hx => ?_, by simp [mc0], by simp [mc0], by simp [mc0], by simp [mc0]⟩
  · have := List.eq_of_mem_replicate hx; subst this; unfold U64; omega
  · have := List.eq_of_mem_replicate hx; subst this; omega
theorem Try.info_u32 : (Try.prog.info? 33).map (fun i => (i.zero, i.size, i.bytes)) = some (some (.int .u32 0), 1, 4) := by kernel_rfl

theorem new_bad (n : Int) (hn : n < 1 ∨ 65536 < n) (w : World) :
    Calls Try.prog 8 #[.int .i64 n] w fun e w' => e = .returned (.tuple #[.pointer none, .int .i64 1]) ∧ w = w' := by
  rcases hn with h | h
  · go_enter Try.func8, Try.ntmps8
    go_wp2
    go_ret2
    exact ⟨rfl, rfl⟩
  · have h2 : ¬ n < 1 := by omega
    go_enter Try.func8, Try.ntmps8
    go_wp2
    go_ret2
    exact ⟨rfl, rfl⟩

/-- what New makes -/
def New (k : IntKind) (T : TypeId) (n : Nat) (w w' : World) : Prop :=
  Below w.heap.size w w' ∧ w'.heap.size = w.heap.size + 2 ∧ ∀ B, w'.heap.size ≤ B → IsM k T B w' ⟨w.heap.size + 1, w.heap.size, none, 0⟩ (mc0 n)
theorem new_mc (k : IntKind) (T : TypeId) (n : Nat) (h0 : 1 ≤ n) (h1 : n ≤ 65536) (w : World) (cs : Array Value) (hcs : cs = (mcs k (.slice (some ⟨w.heap.size, 0, none⟩) n n) (.slice none 0 0) (List.replicate 16 0) 0).toArray) :
    New k T n w ((w.alloc (.cells (madeCells #[Value.int .u32 0] n) 33)).alloc (.cells cs T)) := by
  subst hcs
  refine ⟨below_two _ _ _, by simp, fun B hB => ?_⟩
  simp only [World.size_alloc] at hB
  have hm1 : madeCells #[Value.int .u32 0] n = (List.replicate n (Value.int .u32 0)).toArray := by
    apply Array.ext
    · rw [size_madeCells]; simp
    · intro i h1 h2; simp [madeCells, Nat.mod_one]
  have e1 : vws ⟨w.heap.size + 1, w.heap.size, none, 0⟩ (mc0 n) = .slice (some ⟨w.heap.size, 0, none⟩) n n := by simp [vws, mc0]
  have e2 : vcs ⟨w.heap.size + 1, w.heap.size, none, 0⟩ (mc0 n) = .slice none 0 0 := by simp [vcs, mc0]
  refine ⟨mc0_good n h0 h1, ?_, ?_, by simp, by simp; omega, by simp; omega, ?_⟩
  · rw [e1, e2]
    have := heap_alloc_new (w.alloc (.cells (madeCells #[Value.int .u32 0] n) 33)) (.cells (mcs k (.slice (some ⟨w.heap.size, 0, none⟩) n n) (.slice none 0 0) (List.replicate 16 0) 0).toArray T)
    unfold Blk
    simpa [mc0] using this
  · have h := (Blk.new w 33 (madeCells #[Value.int .u32 0] n)).alloc (.cells (mcs k (.slice (some ⟨w.heap.size, 0, none⟩) n n) (.slice none 0 0) (List.replicate 16 0) 0).toArray T)
    rw [hm1] at h
    simpa [mc0, List.map_replicate, hm1] using h
  · rw [e2]; exact World.ownsRow_nil _ _ _ _
set_option maxRecDepth 100000 in
theorem new_any (N : Int) (n : Nat) (hN : N = n) (h0 : 1 ≤ n) (h1 : n ≤ 65536) (w : World) :
    Calls Try.prog 8 #[.int .i64 N] w fun e w' => e = .returned (.tuple #[.pointer (some ⟨w.heap.size + 1, 0, none⟩), .int .i64 0]) ∧ New .u32 62 n w w' := by
  subst hN
  have hmk := fun W => run_make_row' (P := Try.prog) 42 33 (.int .u32 0) 4 Try.underlying42 Try.info_u32 rfl .i64 .i64 n (by omega) (by omega) W
  have HN := Lib.hid (new_mc .u32 62 n h0 h1 w _ rfl)
  go_enter Try.func8, Try.ntmps8
  go_wp2
  go_ret2
  exact ⟨rfl, HN.out⟩
set_option maxRecDepth 100000 in
theorem rnew_any (N : Int) (n : Nat) (hN : N = n) (h0 : 1 ≤ n) (h1 : n ≤ 65536) (w : World) :
    Calls Try.prog 9 #[.int .i64 N] w fun e w' => e = .returned (.pointer (some ⟨w.heap.size + 1, 0, none⟩)) ∧ New .i64 44 n w w' := by
  subst hN
  have hmk := fun W => run_make_row' (P := Try.prog) 42 33 (.int .u32 0) 4 Try.underlying42 Try.info_u32 rfl .i64 .i64 n (by omega) (by omega) W
  have HN := Lib.hid (new_mc .i64 44 n h0 h1 w _ rfl)
  go_enter Try.func9, Try.ntmps9
  go_wp2
  go_ret
  exact ⟨rfl, HN.out⟩

section
variable {T : TypeId} {B : Nat} {P : Mp} {M : Mc}
theorem hasReg_any (g : Nat) (i : Int) (w : World) :
    Calls Try.prog 30 #[.pointer (some ⟨g, 0, none⟩), .int .i64 i] w fun e w' => e = .returned (.bool (rg i)) ∧ w = w' := by
  by_cases h1 : 0 ≤ i
  · go_enter Try.func30, Try.ntmps30
    go_wp2
    go_ret
    exact ⟨ret_bool (by simp [rg, h1]), rfl⟩
  · have h2 : decide (0 ≤ i) = false := by simpa using h1
    go_enter Try.func30, Try.ntmps30
    go_wp2
    go_ret
    exact ⟨ret_bool (by simp [rg]; omega), rfl⟩
/-- is there such a word? -/
def wo (n : Nat) (i : Int) : Bool := decide (0 ≤ i ∧ i < n)
theorem hasWord_any (i : Int) (w : World) (hM : IsM .u32 T B w P M) :
    Calls Try.prog 31 #[.pointer (some ⟨P.g, 0, none⟩), .int .i64 i] w fun e w' => e = .returned (.bool (wo M.W.length i)) ∧ w = w' := by
  have hc := hM.cw
  have hl := hM.good.w1
  unfold vws at hc
  generalize M.W.length = n at *
  clear hM
  by_cases h1 : 0 ≤ i
  · go_enter Try.func31, Try.ntmps31
    go_wp2
    go_ret
    exact ⟨ret_bool (by simp [wo, h1]), rfl⟩
  · have h2 : decide (0 ≤ i) = false := by simpa using h1
    go_enter Try.func31, Try.ntmps31
    go_wp2
    go_ret
    exact ⟨ret_bool (by simp [wo]; omega), rfl⟩
/-- register i, or 0 -/
def Mc.reg (M : Mc) (i : Int) : Int := if rg i = true then M.R.getD i.toNat 0 else 0
def Mc.word (M : Mc) (i : Int) : Int := if wo M.W.length i = true then M.W.getD i.toNat 0 else 0
theorem reg_any (i : Int) (w : World) (hM : IsM .u32 T B w P M) :
    Calls Try.prog 25 #[.pointer (some ⟨P.g, 0, none⟩), .int .i64 i] w fun e w' => e = .returned (.int .u64 (M.reg i)) ∧ w = w' := by
  have hh := hasReg_any P.g i
  unfold Mc.reg
  cases hr : rg i
  · rw [hr] at hh
    have HH := Lib.hid hh
    clear hh hM hr
    simp only [Bool.false_eq_true, if_false]
    go_enter Try.func25, Try.ntmps25
    go_wp2_with (go_at_call 30; refine (HH.out _).mono ?_; rintro e w' ⟨rfl, rfl⟩)
    go_ret
    exact ⟨rfl, rfl⟩
  · rw [hr] at hh
    simp only [rg, decide_eq_true_eq] at hr
    obtain ⟨k, rfl⟩ := Int.eq_ofNat_of_zero_le hr.1
    have hk : k < 16 := by omega
    have HH := Lib.hid hh
    have hc := hM.reg k hk
    simp only [if_true, Int.toNat_natCast]
    generalize M.R.getD k 0 = x at *
    clear hh hM hr
    go_enter Try.func25, Try.ntmps25
    go_wp2_with (go_at_call 30; refine (HH.out _).mono ?_; rintro e w' ⟨rfl, rfl⟩)
    go_ret
    exact ⟨rfl, rfl⟩
theorem word_any (i : Int) (w : World) (hM : IsM .u32 T B w P M) :
    Calls Try.prog 26 #[.pointer (some ⟨P.g, 0, none⟩), .int .i64 i] w fun e w' => e = .returned (.int .u32 (M.word i)) ∧ w = w' := by
  have hh := hasWord_any i w hM
  have hcw := hM.cw
  have hl := hM.good.w1
  unfold vws at hcw
  unfold Mc.word
  cases hr : wo M.W.length i
  · rw [hr] at hh
    have HH := Lib.hid hh
    clear hh hM hr
    simp only [Bool.false_eq_true, if_false]
    go_enter Try.func26, Try.ntmps26
    go_wp2_with (go_at_call 31; refine HH.out.mono ?_; rintro e w' ⟨rfl, rfl⟩)
    go_ret
    exact ⟨rfl, rfl⟩
  · rw [hr] at hh
    simp only [wo, decide_eq_true_eq] at hr
    obtain ⟨k, rfl⟩ := Int.eq_ofNat_of_zero_le hr.1
    have hk : k < M.W.length := by omega
    have HH := Lib.hid hh
    have hc := hM.word k hk
    simp only [if_true, Int.toNat_natCast]
    generalize M.W.getD k 0 = x at *
    generalize M.W.length = n at *
    clear hh hM hr
    go_enter Try.func26, Try.ntmps26
    go_wp2_with (go_at_call 31; refine HH.out.mono ?_; rintro e w' ⟨rfl, rfl⟩)
    go_ret
    exact ⟨rfl, rfl⟩
theorem at_any (w : World) (hM : IsM .u32 T B w P M) :
    Calls Try.prog 22 #[.pointer (some ⟨P.g, 0, none⟩)] w fun e w' => e = .returned (.int .i64 M.p) ∧ w = w' := by
  have hc := hM.cp
  have h0 := hM.good.p0
  have h1 := hM.good.p1
  generalize M.p = x at *
  clear hM
  go_enter Try.func22, Try.ntmps22
  go_wp2
  go_ret
  exact ⟨rfl, rfl⟩
theorem words_any (w : World) (hM : IsM .u32 T B w P M) :
    Calls Try.prog 35 #[.pointer (some ⟨P.g, 0, none⟩)] w fun e w' => e = .returned (.int .i64 M.W.length) ∧ w = w' := by
  have hc := hM.cw
  unfold vws at hc
  generalize M.W.length = n at *
  clear hM
  go_enter Try.func35, Try.ntmps35
  go_wp2
  go_ret
  exact ⟨rfl, rfl⟩
/-- what SetReg leaves -/
theorem setReg_no (i : Int) (v : Int) (hi : rg i = false) (w : World) :
    Calls Try.prog 13 #[.pointer (some ⟨P.g, 0, none⟩), .int .i64 i, .int .u64 v] w fun e w' => e = .returned (.bool false) ∧ w = w' := by
  have hh := hasReg_any P.g i
  rw [hi] at hh
  have HH := Lib.hid hh
  clear hh hi
  go_enter Try.func13, Try.ntmps13
  go_wp2_with (go_at_call 30; refine (HH.out _).mono ?_; rintro e w' ⟨rfl, rfl⟩)
  go_ret
  exact ⟨rfl, rfl⟩
theorem setReg_any (I : Int) (i : Nat) (hI : I = i) (hi : i < 16) (v : Int) (hv : U64 v) (w : World) (hM : IsM .u32 T B w P M) :
    Calls Try.prog 13 #[.pointer (some ⟨P.g, 0, none⟩), .int .i64 I, .int .u64 v] w fun e w' => e = .returned (.bool true) ∧ IsM .u32 T B w' P { M with R := M.R.set i v } ∧ Turn P.g P.gw w w' := by
  subst hI
  have hh := hasReg_any P.g i
  have hr : rg (i : Int) = true := by simp [rg]; omega
  rw [hr] at hh
  have HH := Lib.hid hh
  have hc := hM.reg i hi
  have hf := hM.fg i
  have HM := Lib.hid hM
  have HV := Lib.hid hv
  clear hh hr hM hv
  go_enter Try.func13, Try.ntmps13
  go_wp2_with (go_at_call 30; refine (HH.out _).mono ?_; rintro e w' ⟨rfl, rfl⟩)
  go_ret
  exact ⟨rfl, HM.out.setReg i hi v HV.out, (Turn.refl _ _ _).setG _ _⟩
theorem setWord_no (i : Int) (v : Int) (w : World) (hM : IsM .u32 T B w P M) (hi : wo M.W.length i = false) :
    Calls Try.prog 14 #[.pointer (some ⟨P.g, 0, none⟩), .int .i64 i, .int .u32 v] w fun e w' => e = .returned (.bool false) ∧ w = w' := by
  have hh := hasWord_any i w hM
  rw [hi] at hh
  have HH := Lib.hid hh
  clear hh hi hM
  go_enter Try.func14, Try.ntmps14
  go_wp2_with (go_at_call 31; refine HH.out.mono ?_; rintro e w' ⟨rfl, rfl⟩)
  go_ret
  exact ⟨rfl, rfl⟩
theorem setWord_any (I : Int) (i : Nat) (hI : I = i) (v : Int) (hv : 0 ≤ v ∧ v < 4294967296) (w : World) (hM : IsM .u32 T B w P M) (hi : i < M.W.length) :
    Calls Try.prog 14 #[.pointer (some ⟨P.g, 0, none⟩), .int .i64 I, .int .u32 v] w fun e w' => e = .returned (.bool true) ∧ IsM .u32 T B w' P { M with W := M.W.set i v } ∧ Turn P.g P.gw w w' := by
  subst hI
  have hh := hasWord_any i w hM
  have hr : wo M.W.length (i : Int) = true := by simp [wo]; omega
  rw [hr] at hh
  have HH := Lib.hid hh
  have hc := hM.word i hi
  have hcw := hM.cw
  have hl := hM.good.w1
  unfold vws at hcw
  have hf := hM.fw i
  have HM := Lib.hid hM
  have HV := Lib.hid hv
  clear hh hr hM hv
  go_enter Try.func14, Try.ntmps14
  go_wp2_with (go_at_call 31; refine HH.out.mono ?_; rintro e w' ⟨rfl, rfl⟩)
  go_ret
  exact ⟨rfl, HM.out.setWord i v HV.out, (Turn.refl _ _ _).setH _ _⟩
end
end Go.Proofs.Ytaghblcboimbpaa

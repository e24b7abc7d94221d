/-
  gcode.extend, gcode.Encode: A CONTRACT EACH.
-/
import Derived.Test.YtmgjojgjonighaaDoorGc1
import Derived.Test.YtmgjojgjonighaaDoorApp
import Derived.Test.YtmgjojgjonighaaDoorMem
namespace Go.Proofs.YtmgjojgjonighaaDoor
open Go.RowKit
set_option linter.unusedSimpArgs false
set_option linter.unusedVariables false

/-- a number's lowest byte -/
def byt (x : Int) : UInt8 := UInt8.ofNat x.toNat
theorem byt_val (x : Int) (h : 0 ≤ x) : ((byt x).toNat : Int) = x % 256 := by
  obtain ⟨n, rfl⟩ := Int.eq_ofNat_of_zero_le h
  simp [byt]
theorem byt_of (x : Int) (h : 0 ≤ x) (h1 : x < 256) : ((byt x).toNat : Int) = x := by rw [byt_val x h]; omega
/-- bytes as cells hold them -/
def bv (l : List UInt8) : List Value := l.map fun b => .int .u8 (b.toNat : Int)
theorem bv_append (a b : List UInt8) : bv (a ++ b) = bv a ++ bv b := by simp [bv]
theorem bv_length (a : List UInt8) : (bv a).length = a.length := by simp [bv]
/-- an instruction's bytes -/
def ecV (op n : Int) : List UInt8 :=
  if szV op = 5 then [byt op, byt n, byt (n / 256), byt (n / 65536), byt (n / 16777216)] else if szV op = 2 then [byt op, byt n] else [byt op]
theorem szV_bd (op : Int) (h : szV op ≠ 0) : 0 ≤ op ∧ op ≤ 69 := by
  unfold szV at h; (repeat' split at h) <;> omega
theorem ecV_len (op n : Int) (h : szV op ≠ 0) : ((ecV op n).length : Int) = szV op := by
  rcases szV_cases op with h1 | h1 | h1 | h1
  · exact absurd h1 h
  all_goals simp [ecV, h1]
theorem Tryd.info_u8 : (Tryd.prog.info? 5).map (fun i => (i.zero, i.size, i.bytes)) = some (some (.int .u8 0), 1, 1) := by kernel_rfl

/-- what stands behind the boxed instruction and one more block -/
theorem box_two (w : World) (x y : Value) (T T' : TypeId) (cs : Array Value) :
    ((w.alloc (.cells #[x, y] T)).alloc (.cells cs T')).cell? ⟨w.heap.size, 0, none⟩ = some x ∧ ((w.alloc (.cells #[x, y] T)).alloc (.cells cs T')).cell? ⟨w.heap.size, 1, none⟩ = some y
      ∧ ((w.alloc (.cells #[x, y] T)).alloc (.cells cs T')).heap[w.heap.size + 1]? = some (.cells cs T' (0, 0)) := by
  refine ⟨?_, ?_, ?_⟩
  · rw [World.cell?_alloc_lt _ _ _ (by simp), World.cell?_alloc_new]; rfl
  · rw [World.cell?_alloc_lt _ _ _ (by simp), World.cell?_alloc_new]; rfl
  · have := heap_alloc_new (w.alloc (.cells #[x, y] T)) (.cells cs T'); simpa using this

set_option maxRecDepth 100000 in
set_option maxHeartbeats 1000000 in
theorem extend_one (B : Nat) (A : Option Addr) (k c : Nat) (xs : List Value) (op n : Int) (h1 : szV op = 1) (n0 : 0 ≤ n) (n1 : n < 4294967296) (w : World) (hB : B ≤ w.heap.size)
    (hk : k ≤ 70368744177664) (hown : w.ownsRow B 5 1 (.slice A k c) k xs) :
    Calls Tryd.prog 38 #[.slice A k c, .agg #[.int .i64 op, .int .u32 n]] w fun e w' => ∃ v', e = .returned v' ∧ Ext B 5 1 w w' (.slice A k c) v' (k + 1) (xs ++ bv (ecV op n)) := by
  obtain ⟨o0, o1⟩ := szV_bd op (by omega)
  have e : bv (ecV op n) = [.int .u8 op] := by simp [ecV, h1, bv, byt_of op o0 (by omega)]
  rw [e]; clear e
  have hsz := size_any op
  rw [h1] at hsz
  have HS := Lib.hid hsz
  clear hsz h1
  have Hlt := Lib.hid (own_lt hown)
  have HX := Lib.hid ((hown.alloc (.cells #[.int .i64 op, .int .u32 n] 26)).alloc (.cells #[.int .u8 op] 5))
  have HB := Lib.hid (box_two w (.int .i64 op) (.int .u32 n) 26 5 #[.int .u8 op])
  have HW := Lib.hid (((Below.refl w.heap.size w).alloc (Nat.le_refl _) (.cells #[.int .i64 op, .int .u32 n] 26)).alloc (by simp) (.cells #[.int .u8 op] 5))
  clear hown
  go_enter Tryd.func38, Tryd.ntmps38
  go_wp2_with (first
    | (at_builtin
       refine wpList_app rfl (.tmp 5) (.tmp 9) _ rfl B 5 _ 1 1 Tryd.underlying27 Tryd.info_u8 rfl (by omega) (.slice A k c) k xs rfl HX.out (w.heap.size + 1) 1 1 _ _ _ rfl HB.out.2.2 rfl (by simp [Value.oneCell']) (by omega) (by unfold maxLen; omega) (by omega) (by simp; omega) ?_
       intro g cap w1 hext
       have c0 := (hext.cell (p := ⟨w.heap.size, 0, none⟩) (by simp; omega) (fun g hg => Nat.ne_of_lt (Hlt.out g hg))).trans HB.out.1
       have HE := Lib.hid (Ext.after HW.out hext)
       clear hext)
    | (go_at_call 15; refine (HS.out _).mono ?_; rintro e w' ⟨rfl, rfl⟩))
  go_ret
  exact ⟨_, rfl, HE.out⟩

set_option maxRecDepth 100000 in
set_option maxHeartbeats 1000000 in
theorem extend_two (B : Nat) (A : Option Addr) (k c : Nat) (xs : List Value) (op n : Int) (h1 : szV op = 2) (n0 : 0 ≤ n) (n1 : n < 256) (w : World) (hB : B ≤ w.heap.size)
    (hk : k ≤ 70368744177664) (hown : w.ownsRow B 5 1 (.slice A k c) k xs) :
    Calls Tryd.prog 38 #[.slice A k c, .agg #[.int .i64 op, .int .u32 n]] w fun e w' => ∃ v', e = .returned v' ∧ Ext B 5 1 w w' (.slice A k c) v' (k + 2) (xs ++ bv (ecV op n)) := by
  obtain ⟨o0, o1⟩ := szV_bd op (by omega)
  have e : bv (ecV op n) = [.int .u8 op] ++ [.int .u8 n] := by simp [ecV, h1, bv, byt_of op o0 (by omega), byt_of n n0 n1]
  rw [e]; clear e
  have hsz := size_any op
  rw [h1] at hsz
  have HS := Lib.hid hsz
  clear hsz h1
  have Hlt := Lib.hid (own_lt hown)
  have HX := Lib.hid ((hown.alloc (.cells #[.int .i64 op, .int .u32 n] 26)).alloc (.cells #[.int .u8 op] 5))
  have HB := Lib.hid (box_two w (.int .i64 op) (.int .u32 n) 26 5 #[.int .u8 op])
  have HW := Lib.hid (((Below.refl w.heap.size w).alloc (Nat.le_refl _) (.cells #[.int .i64 op, .int .u32 n] 26)).alloc (by simp) (.cells #[.int .u8 op] 5))
  clear hown
  go_enter Tryd.func38, Tryd.ntmps38
  go_wp2_with (first
    | (at_builtin
       refine wpList_app rfl (.tmp 5) (.tmp 9) _ rfl B 5 _ 1 1 Tryd.underlying27 Tryd.info_u8 rfl (by omega) (.slice A k c) k xs rfl HX.out (w.heap.size + 1) 1 1 _ _ _ rfl HB.out.2.2 rfl (by simp [Value.oneCell']) (by omega) (by unfold maxLen; omega) (by omega) (by simp; omega) ?_
       intro g cap w1 hext
       have c0 := (hext.cell (p := ⟨w.heap.size, 0, none⟩) (by simp; omega) (fun g hg => Nat.ne_of_lt (Hlt.out g hg))).trans HB.out.1
       have c1 := (hext.cell (p := ⟨w.heap.size, 1, none⟩) (by simp; omega) (fun g hg => Nat.ne_of_lt (Hlt.out g hg))).trans HB.out.2.1
       have hz : w.heap.size < w1.heap.size := by have := hext.size_le; simp at this; omega
       have HE := Lib.hid (Ext.after HW.out hext)
       clear hext)
    | (at_builtin
       refine wpList_app rfl (.tmp 16) (.tmp 20) _ rfl B 5 _ 1 1 Tryd.underlying27 Tryd.info_u8 rfl (by omega) _ (k + 1) _ rfl (HE.out.own.alloc _) w1.heap.size 1 1 _ _ _ rfl (heap_alloc_new _ _) rfl (by simp [Value.oneCell']) (by omega) (by unfold maxLen; omega) (by omega) (by simp; omega) ?_
       intro g2 cap2 w2 hext2
       have HE2 := Lib.hid (HE.out.trans (Ext.after ((Below.refl _ _).alloc (Nat.le_refl _) _) hext2))
       clear hext2)
    | (go_at_call 15; refine (HS.out _).mono ?_; rintro e w' ⟨rfl, rfl⟩))
  go_ret
  have h := HE2.out
  rw [List.append_assoc] at h
  exact ⟨_, rfl, h⟩

set_option maxRecDepth 100000 in
set_option maxHeartbeats 1000000 in
theorem extend_five (B : Nat) (A : Option Addr) (k c : Nat) (xs : List Value) (op n : Int) (h1 : szV op = 5) (n0 : 0 ≤ n) (n1 : n < 4294967296) (w : World) (hB : B ≤ w.heap.size)
    (hk : k ≤ 70368744177664) (hown : w.ownsRow B 5 1 (.slice A k c) k xs) :
    Calls Tryd.prog 38 #[.slice A k c, .agg #[.int .i64 op, .int .u32 n]] w fun e w' => ∃ v', e = .returned v' ∧ Ext B 5 1 w w' (.slice A k c) v' (k + 5) (xs ++ bv (ecV op n)) := by
  obtain ⟨o0, o1⟩ := szV_bd op (by omega)
  have e : bv (ecV op n) = [.int .u8 op] ++ [.int .u8 (n % 256), .int .u8 (n / 256 % 256), .int .u8 (n / 65536 % 256), .int .u8 (n / 16777216)] := by
    simp [ecV, h1, bv, byt_of op o0 (by omega), byt_val n n0, byt_val (n / 256) (by omega), byt_val (n / 65536) (by omega), byt_of (n / 16777216) (by omega) (by omega)]
  rw [e]; clear e
  have hsz := size_any op
  rw [h1] at hsz
  have HS := Lib.hid hsz
  clear hsz h1
  have Hlt := Lib.hid (own_lt hown)
  have HX := Lib.hid ((hown.alloc (.cells #[.int .i64 op, .int .u32 n] 26)).alloc (.cells #[.int .u8 op] 5))
  have HB := Lib.hid (box_two w (.int .i64 op) (.int .u32 n) 26 5 #[.int .u8 op])
  have HW := Lib.hid (((Below.refl w.heap.size w).alloc (Nat.le_refl _) (.cells #[.int .i64 op, .int .u32 n] 26)).alloc (by simp) (.cells #[.int .u8 op] 5))
  clear hown
  go_enter Tryd.func38, Tryd.ntmps38
  go_wp2_with (first
    | (at_builtin
       refine wpList_app rfl (.tmp 5) (.tmp 9) _ rfl B 5 _ 1 1 Tryd.underlying27 Tryd.info_u8 rfl (by omega) (.slice A k c) k xs rfl HX.out (w.heap.size + 1) 1 1 _ _ _ rfl HB.out.2.2 rfl (by simp [Value.oneCell']) (by omega) (by unfold maxLen; omega) (by omega) (by simp; omega) ?_
       intro g cap w1 hext
       have c0 := (hext.cell (p := ⟨w.heap.size, 0, none⟩) (by simp; omega) (fun g hg => Nat.ne_of_lt (Hlt.out g hg))).trans HB.out.1
       have c1 := (hext.cell (p := ⟨w.heap.size, 1, none⟩) (by simp; omega) (fun g hg => Nat.ne_of_lt (Hlt.out g hg))).trans HB.out.2.1
       have hz : w.heap.size < w1.heap.size := by have := hext.size_le; simp at this; omega
       have HE := Lib.hid (Ext.after HW.out hext)
       clear hext)
    | (at_builtin
       refine wpList_app rfl (.tmp 24) (.tmp 40) _ rfl B 5 _ 1 1 Tryd.underlying27 Tryd.info_u8 rfl (by omega) _ (k + 1) _ rfl (HE.out.own.alloc _) w1.heap.size 4 4 _ _ _ rfl (heap_alloc_new _ _) rfl (by simp [Value.oneCell']) (by omega) (by unfold maxLen; omega) (by omega) (by simp; omega) ?_
       intro g2 cap2 w2 hext2
       have HE2 := Lib.hid (HE.out.trans (Ext.after ((Below.refl _ _).alloc (Nat.le_refl _) _) hext2))
       clear hext2)
    | (go_at_call 15; refine (HS.out _).mono ?_; rintro e w' ⟨rfl, rfl⟩))
  go_ret
  have h := HE2.out
  rw [List.append_assoc] at h
  exact ⟨_, rfl, h⟩
theorem extend_any (B : Nat) (A : Option Addr) (k c : Nat) (xs : List Value) (op n : Int) (hk : okV op n = true) (n0 : 0 ≤ n) (n1 : n < 4294967296) (w : World) (hB : B ≤ w.heap.size)
    (hk : k ≤ 70368744177664) (hown : w.ownsRow B 5 1 (.slice A k c) k xs) :
    Calls Tryd.prog 38 #[.slice A k c, .agg #[.int .i64 op, .int .u32 n]] w fun e w' => ∃ v', e = .returned v' ∧ Ext B 5 1 w w' (.slice A k c) v' (k + (ecV op n).length) (xs ++ bv (ecV op n)) := by
  rename okV op n = true => hok
  unfold okV at hok
  rcases szV_cases op with h | h | h | h
  · simp [h] at hok
  · rw [show (ecV op n).length = 1 by simp [ecV, h]]; exact extend_one B A k c xs op n h n0 n1 w hB hk hown
  · rw [show (ecV op n).length = 2 by simp [ecV, h]]; exact extend_two B A k c xs op n h n0 (by simp [h] at hok; omega) w hB hk hown
  · rw [show (ecV op n).length = 5 by simp [ecV, h]]; exact extend_five B A k c xs op n h n0 n1 w hB hk hown

set_option maxRecDepth 100000 in
theorem encode_ok (op n : Int) (hk : okV op n = true) (n0 : 0 ≤ n) (n1 : n < 4294967296) (w : World) :
    Calls Tryd.prog 25 #[.agg #[.int .i64 op, .int .u32 n]] w fun e w' => ∃ A c, e = .returned (.tuple #[.slice A (ecV op n).length c, .int .i64 0]) ∧ w'.ownsRow w.heap.size 5 1 (.slice A (ecV op n).length c) (ecV op n).length (bv (ecV op n)) ∧ Below w.heap.size w w' := by
  have hr := right_any op n n0
  rw [hk] at hr
  have HR := Lib.hid hr
  have HK := Lib.hid hk
  clear hr hk
  have HB := Lib.hid (box2_new w (.int .i64 op) (.int .u32 n) 26)
  go_enter Tryd.func25, Tryd.ntmps25
  go_wp2_with (first
    | (go_at_call 23; refine (HR.out _).mono ?_; rintro e w1 ⟨rfl, hb⟩; obtain ⟨c0, c1, cs, cb⟩ := box2_keep HB.out hb; clear hb)
    | (go_at_call 38; refine (extend_any _ none 0 0 [] op n HK.out n0 n1 _ (Nat.le_refl _) (by omega) (World.ownsRow_nil _ _ _ _)).mono ?_; rintro e w2 ⟨v', rfl, hext⟩))
  have hb2 := hext.nil_below
  have ho := hext.own
  obtain ⟨A, c, rfl⟩ := own_form ho
  simp only [Nat.zero_add, List.nil_append] at ho
  go_ret2
  exact ⟨A, c, by simp, own_mono ho (by omega), cb.trans (hb2.mono (by omega))⟩
set_option maxRecDepth 100000 in
theorem encode_not (op n : Int) (hk : okV op n = false) (n0 : 0 ≤ n) (w : World) :
    Calls Tryd.prog 25 #[.agg #[.int .i64 op, .int .u32 n]] w fun e w' => e = .returned (.tuple #[.slice none 0 0, .int .i64 12]) ∧ Below w.heap.size w w' := by
  have hr := right_any op n n0
  rw [hk] at hr
  have HR := Lib.hid hr
  clear hr hk
  have HB := Lib.hid (box2_new w (.int .i64 op) (.int .u32 n) 26)
  go_enter Tryd.func25, Tryd.ntmps25
  go_wp2_with (go_at_call 23; refine (HR.out _).mono ?_; rintro e w1 ⟨rfl, hb⟩; obtain ⟨c0, c1, cs, cb⟩ := box2_keep HB.out hb; clear hb)
  go_ret2
  exact ⟨rfl, cb⟩
end Go.Proofs.YtmgjojgjonighaaDoor

/-
  TEXTS AND BYTES OF UNLIKE INSTRUCTIONS ARE UNLIKE; '==' of instructions and of strings.
-/
import Derived.Test.YthobedekeebadaaDoorHt
import Derived.Test.YthobedekeebadaaDoorHp
namespace Go.Proofs.YthobedekeebadaaDoor
open Go.RowKit
set_option linter.unusedSimpArgs false
set_option linter.unusedVariables false

def valD (l : List UInt8) : Nat := l.foldl (fun a c => a * 10 + (c.toNat - 48)) 0
theorem valD_dec (u : Nat) : valD (Lib.decDigits u) = u := by
  induction u using Nat.strongRecOn with
  | _ u ih =>
    rw [Lib.decDigits]
    split
    · rename_i h
      simp [valD]
      omega
    · rename_i h
      have h1 := ih (u / 10) (by omega)
      have : (UInt8.ofNat (48 + u % 10)).toNat = 48 + u % 10 := by simp; omega
      unfold valD at h1 ⊢
      rw [List.foldl_append, h1]
      simp [this]
      omega
theorem dec_inj {a b : Nat} (h : Lib.decDigits a = Lib.decDigits b) : a = b := by
  rw [← valD_dec a, ← valD_dec b, h]
theorem ne_blank (k : Nat) (h : k < 10) : (UInt8.ofNat (48 + k) != 32) = true := by
  have : (UInt8.ofNat (48 + k)).toNat = 48 + k := by simp; omega
  rw [bne_iff_ne]
  intro e
  rw [e] at this
  have h32 : (32 : UInt8).toNat = 32 := rfl
  omega
theorem dec_all (u : Nat) : ((Lib.decDigits u).all fun c => c != 32) = true := by
  induction u using Nat.strongRecOn with
  | _ u ih =>
    rw [Lib.decDigits]
    split
    · rename_i h
      simp only [List.all_cons, List.all_nil, Bool.and_true]
      exact ne_blank u h
    · rename_i h
      rw [List.all_append, ih (u / 10) (by omega)]
      simp only [List.all_cons, List.all_nil, Bool.and_true, Bool.true_and]
      exact ne_blank (u % 10) (by omega)
theorem nm_all : ∀ a : Fin 20, ((nmH (a.val : Int)).all fun c => c != 32) = true := by decide +kernel
theorem nm_inj : ∀ a b : Fin 20, nmH (a.val : Int) = nmH (b.val : Int) → a = b := by decide +kernel
/-- cut at the first blank -/
theorem word_one {l1 l2 r1 r2 : List UInt8} (h1 : (l1.all fun c => c != 32) = true) (h2 : (l2.all fun c => c != 32) = true) (h : l1 ++ 32 :: r1 = l2 ++ 32 :: r2) : l1 = l2 ∧ r1 = r2 := by
  induction l1 generalizing l2 with
  | nil =>
    cases l2 with
    | nil => simpa using h
    | cons c l2 =>
      simp at h
      obtain ⟨rfl, _⟩ := h
      simp at h2
  | cons c l1 ih =>
    cases l2 with
    | nil =>
      simp at h
      obtain ⟨rfl, _⟩ := h
      simp at h1
    | cons e l2 =>
      rw [List.cons_append, List.cons_append] at h
      obtain ⟨rfl, h3⟩ := List.cons.inj h
      rw [List.all_cons, Bool.and_eq_true] at h1 h2
      obtain ⟨h4, h5⟩ := ih h1.2 h2.2 h3
      exact ⟨by rw [h4], h5⟩
theorem th_inj {p q : Hi} (hp : p.Ok) (hq : q.Ok) (h : thV p.o p.d p.a p.b p.n = thV q.o q.d q.a q.b q.n) : p = q := by
  have kp : okH p.o p.d p.a p.b p.n = true := hp.1
  have kq : okH q.o q.d q.a q.b q.n = true := hq.1
  obtain ⟨⟨o0, o1⟩, ⟨d0, d1⟩, ⟨a0, a1⟩, ⟨b0, b1⟩⟩ := okH_bd kp
  obtain ⟨⟨o0', o1'⟩, ⟨d0', d1'⟩, ⟨a0', a1'⟩, ⟨b0', b1'⟩⟩ := okH_bd kq
  obtain ⟨n0, n1⟩ := hp.2
  obtain ⟨n0', n1'⟩ := hq.2
  have e1 : ∀ (o : Int) (d a b n : Nat), nmH o ++ sps [d, a, b, n] = nmH o ++ 32 :: (Lib.decDigits d ++ 32 :: (Lib.decDigits a ++ 32 :: (Lib.decDigits b ++ 32 :: Lib.decDigits n))) := by intro o d a b n; simp [sps]
  unfold thV at h
  rw [if_pos kp, if_pos kq, e1, e1] at h
  have na : ∀ o : Int, 0 ≤ o → o ≤ 19 → ((nmH o).all fun c => c != 32) = true := fun o x0 x1 => by
    have := nm_all ⟨o.toNat, by omega⟩
    simp only [Int.toNat_of_nonneg x0] at this
    exact this
  obtain ⟨h1, h⟩ := word_one (na _ o0 o1) (na _ o0' o1') h
  obtain ⟨h2, h⟩ := word_one (dec_all _) (dec_all _) h
  obtain ⟨h3, h⟩ := word_one (dec_all _) (dec_all _) h
  obtain ⟨h4, h5⟩ := word_one (dec_all _) (dec_all _) h
  have f1 : p.o = q.o := by
    have := nm_inj ⟨p.o.toNat, by omega⟩ ⟨q.o.toNat, by omega⟩ (by simp only [Int.toNat_of_nonneg o0, Int.toNat_of_nonneg o0']; exact h1)
    have := congrArg Fin.val this
    simp at this; omega
  have f2 := dec_inj h2
  have f3 := dec_inj h3
  have f4 := dec_inj h4
  have f5 := dec_inj h5
  exact Hi.ext' f1 (by omega) (by omega) (by omega) (by omega)
theorem enc_inj {p q : Hi} (hp : p.Ok) (hq : q.Ok) (h : p.enc = q.enc) : p = q := by
  rw [← (ec_dc p hp).2, ← (ec_dc q hq).2, h]

/-- '==' of two instructions and of their strings is one and the same -/
theorem eq_one (x y : Hi) (hx : x.Ok) (hy : y.Ok) : ∃ q : Bool,
    (∀ W, (binOp .eql 24 x.v y.v).run Tryd.prog W = .ok (.bool q) W)
    ∧ (∀ W, (binOp .eql 9 (.string ⟨x.enc.toArray⟩) (.string ⟨y.enc.toArray⟩)).run Tryd.prog W = .ok (.bool q) W)
    ∧ (∀ W, (binOp .eql 9 (.string ⟨(thV x.o x.d x.a x.b x.n).toArray⟩) (.string ⟨(thV y.o y.d y.a y.b y.n).toArray⟩)).run Tryd.prog W = .ok (.bool q) W) := by
  by_cases h : x = y
  · subst h
    refine ⟨true, fun W => ?_, fun W => ?_, fun W => ?_⟩
    · obtain ⟨o, d, a, b, n⟩ := x
      simp only [Hi.v]
      go_simp
    · go_simp
    · go_simp
  · have hs : ∀ l m : List UInt8, l ≠ m → ∀ W, (binOp .eql 9 (.string ⟨l.toArray⟩) (.string ⟨m.toArray⟩)).run Tryd.prog W = .ok (.bool false) W := fun l m hlm W => by
      go_simp
    refine ⟨false, fun W => ?_, hs _ _ (fun e => h (enc_inj hx hy e)), hs _ _ (fun e => h (th_inj hx hy e))⟩
    obtain ⟨o, d, a, b, n⟩ := x
    obtain ⟨o', d', a', b', n'⟩ := y
    simp only [Hi.v]
    cases q0 : (o == o')
    · go_simp
    cases q1 : (d == d')
    · go_simp
    cases q2 : (a == a')
    · go_simp
    cases q3 : (b == b')
    · go_simp
    cases q4 : (n == n')
    · go_simp
    · simp only [beq_iff_eq] at q0 q1 q2 q3 q4
      subst q0; subst q1; subst q2; subst q3; subst q4
      exact absurd rfl h
end Go.Proofs.YthobedekeebadaaDoor

/-
  HOST INSTRUCTIONS AND THEIR BYTES: plain lists and numbers.
-/
import Derived.Test.YtaghblcboimbpaaHc1
import Derived.Test.YtaghblcboimbpaaRd
namespace Go.Proofs.Ytaghblcboimbpaa
open Go.RowKit
set_option linter.unusedSimpArgs false
set_option linter.unusedVariables false

/-- a number's lowest byte -/
def byt (x : Int) : UInt8 := UInt8.ofNat x.toNat
theorem byt_val (x : Int) (h : 0 ≤ x) : ((byt x).toNat : Int) = x % 256 := by
  obtain ⟨n, rfl⟩ := Int.eq_ofNat_of_zero_le h
  simp [byt]
theorem byt_of (x : Int) (h : 0 ≤ x) (h1 : x < 256) : ((byt x).toNat : Int) = x := by rw [byt_val x h]; omega
/-- bytes as cells hold them -/
def bv (l : List UInt8) : List Value := l.map fun b => .int .u8 (b.toNat : Int)
theorem bv_append (a b : List UInt8) : bv (a ++ b) = bv a ++ bv b := by simp [bv]
theorem bv_length (a : List UInt8) : (bv a).length = a.length := by simp [bv]
theorem bv_one (l : List UInt8) : ∀ u ∈ bv l, u.oneCell' = true := by
  intro u hu
  simp [bv] at hu
  obtain ⟨b, _, rfl⟩ := hu
  rfl
/-- byte number j -/
def nth (l : List UInt8) (j : Nat) : Int := ((l.getD j 0).toNat : Int)
theorem nth_bd (l : List UInt8) (j : Nat) : 0 ≤ nth l j ∧ nth l j < 256 := by
  unfold nth; have := (l.getD j 0).toNat_lt; omega
theorem bv_at (l : List UInt8) (j : Nat) (h : j < l.length) : (bv l)[j]? = some (.int .u8 (nth l j)) := by
  simp [bv, nth, List.getD, List.getElem?_eq_getElem h]
theorem byt_nth (l : List UInt8) (j : Nat) : byt (nth l j) = l.getD j 0 := by
  unfold byt nth
  simp
theorem take_of_len {l : List UInt8} : ∀ {k : Nat}, k ≤ l.length → l.take k = (List.range k).map fun j => l.getD j 0 := by
  intro k hk
  apply List.ext_getElem
  · simp [hk]
  · intro i h1 h2
    simp at h1
    simp [List.getD, List.getElem?_eq_getElem (show i < l.length by omega)]

/-- an instruction -/
structure Hi where
  o : Int
  d : Int
  a : Int
  b : Int
  n : Int
theorem Hi.ext' {p q : Hi} (h1 : p.o = q.o) (h2 : p.d = q.d) (h3 : p.a = q.a) (h4 : p.b = q.b) (h5 : p.n = q.n) : p = q := by
  cases p; cases q; simp_all
def Hi.v (i : Hi) : Value := hv i.o i.d i.a i.b i.n
def Hi.ok (i : Hi) : Bool := okH i.o i.d i.a i.b i.n
/-- its number is a word -/
def Hi.fit (i : Hi) : Prop := 0 ≤ i.n ∧ i.n < 4294967296
/-- right, its number a word -/
def Hi.Ok (i : Hi) : Prop := i.ok = true ∧ i.fit
theorem okH_bd {o d a b n : Int} (h : okH o d a b n = true) : (0 ≤ o ∧ o ≤ 19) ∧ (0 ≤ d ∧ d < 16) ∧ (0 ≤ a ∧ a < 16) ∧ (0 ≤ b ∧ b < 16) := by
  simp [okH, isO, rg] at h
  omega
/-- its bytes -/
def ehV (o d a b n : Int) : List UInt8 := [byt o, byt d, byt a, byt b, byt n, byt (n / 256), byt (n / 65536), byt (n / 16777216)]
def Hi.enc (i : Hi) : List UInt8 := ehV i.o i.d i.a i.b i.n
theorem Hi.enc_len (i : Hi) : i.enc.length = 8 := rfl
/-- its cells -/
def Hi.cs (i : Hi) : List Value := [.int .i64 i.o, .int .i64 i.d, .int .i64 i.a, .int .i64 i.b, .int .u32 i.n]
def encs (L : List Hi) : List UInt8 := L.flatMap Hi.enc
theorem encs_append (a b : List Hi) : encs (a ++ b) = encs a ++ encs b := by simp [encs]
theorem encs_cons (p : Hi) (b : List Hi) : encs (p :: b) = p.enc ++ encs b := by simp [encs]
theorem encs_nil : encs [] = [] := rfl
theorem encs_len (L : List Hi) : (encs L).length = 8 * L.length := by
  induction L with
  | nil => rfl
  | cons p L ih => rw [encs_cons, List.length_append, ih, Hi.enc_len, List.length_cons]; omega
def ivs (L : List Hi) : List Value := L.flatMap Hi.cs
theorem ivs_append (a b : List Hi) : ivs (a ++ b) = ivs a ++ ivs b := by simp [ivs]
theorem ivs_cons (p : Hi) (b : List Hi) : ivs (p :: b) = p.cs ++ ivs b := by simp [ivs]
theorem ivs_len (L : List Hi) : (ivs L).length = L.length * 5 := by
  induction L with
  | nil => rfl
  | cons p L ih => rw [ivs_cons, List.length_append, ih, List.length_cons]; simp [Hi.cs]; omega
theorem ivs_one (L : List Hi) : ∀ u ∈ ivs L, u.oneCell' = true := by
  intro u hu
  simp [ivs, Hi.cs] at hu
  obtain ⟨p, _, h⟩ := hu
  rcases h with rfl | rfl | rfl | rfl | rfl <;> rfl
theorem ivs_at (L : List Hi) (k : Nat) (h : k < L.length) (j : Nat) (hj : j < 5) : (ivs L)[k * 5 + j]? = L[k].cs[j]? := by
  induction L generalizing k with
  | nil => simp at h
  | cons p L ih =>
    rw [ivs_cons]
    cases k with
    | zero =>
      rw [List.getElem?_append_left (by simp [Hi.cs]; omega)]
      simp
    | succ k =>
      rw [List.getElem?_append_right (by simp [Hi.cs]; omega)]
      have := ih k (by simpa using h)
      have e : (k + 1) * 5 + j - p.cs.length = k * 5 + j := by simp [Hi.cs]; omega
      rw [e, this]; simp
/-- the bytes as the program makes them -/
theorem bv_enc (o d a b n : Int) (h : okH o d a b n = true) (n0 : 0 ≤ n) (n1 : n < 4294967296) :
    bv (ehV o d a b n) = [.int .u8 o, .int .u8 d, .int .u8 a, .int .u8 b, .int .u8 (n % 256), .int .u8 (n / 256 % 256), .int .u8 (n / 65536 % 256), .int .u8 (n / 16777216)] := by
  obtain ⟨⟨o0, o1⟩, ⟨d0, d1⟩, ⟨a0, a1⟩, ⟨b0, b1⟩⟩ := okH_bd h
  simp [bv, ehV, byt_of o o0 (by omega), byt_of d d0 (by omega), byt_of a a0 (by omega), byt_of b b0 (by omega), byt_val n n0, byt_val (n / 256) (by omega), byt_val (n / 65536) (by omega), byt_of (n / 16777216) (by omega) (by omega)]
/-- instructions as a slice holds them, below block B -/
def RdI (w : World) (B : Nat) (A : Option Addr) (L : List Hi) : Prop :=
  0 < L.length → ∃ g off, A = some ⟨g, off, none⟩ ∧ g < B ∧ ∀ k (h : k < L.length), w.cell? ⟨g, off + k * 5, none⟩ = some (.int .i64 L[k].o) ∧ w.cell? ⟨g, off + k * 5 + 1, none⟩ = some (.int .i64 L[k].d)
    ∧ w.cell? ⟨g, off + k * 5 + 2, none⟩ = some (.int .i64 L[k].a) ∧ w.cell? ⟨g, off + k * 5 + 3, none⟩ = some (.int .i64 L[k].b) ∧ w.cell? ⟨g, off + k * 5 + 4, none⟩ = some (.int .u32 L[k].n)
theorem RdI.keep {w w' : World} {B : Nat} {A : Option Addr} {L : List Hi} (h : RdI w B A L) (hb : Below B w w') : RdI w' B A L := fun hn => by
  obtain ⟨g, off, e, hg, hc⟩ := h hn
  exact ⟨g, off, e, hg, fun k hk => ⟨(hb.cell (p := ⟨g, _, none⟩) hg).trans (hc k hk).1, (hb.cell (p := ⟨g, _, none⟩) hg).trans (hc k hk).2.1, (hb.cell (p := ⟨g, _, none⟩) hg).trans (hc k hk).2.2.1, (hb.cell (p := ⟨g, _, none⟩) hg).trans (hc k hk).2.2.2.1, (hb.cell (p := ⟨g, _, none⟩) hg).trans (hc k hk).2.2.2.2⟩⟩
theorem RdI.of_rd {w : World} {B : Nat} {A : Option Addr} {L : List Hi} (h : Rd w B A (ivs L)) : RdI w B A L := fun hn => by
  obtain ⟨g, off, e, hg, hc⟩ := h (by rw [ivs_len]; omega)
  refine ⟨g, off, e, hg, fun k hk => ?_⟩
  have key : ∀ j, j < 5 → ∀ u, L[k].cs[j]? = some u → w.cell? ⟨g, off + k * 5 + j, none⟩ = some u := fun j hj u hu => by
    have := hc (k * 5 + j) u (by rw [ivs_at L k hk j hj]; exact hu)
    rw [← Nat.add_assoc] at this; exact this
  exact ⟨key 0 (by omega) _ rfl, key 1 (by omega) _ rfl, key 2 (by omega) _ rfl, key 3 (by omega) _ rfl, key 4 (by omega) _ rfl⟩
end Go.Proofs.Ytaghblcboimbpaa

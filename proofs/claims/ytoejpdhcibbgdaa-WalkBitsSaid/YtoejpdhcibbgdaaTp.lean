/-
  Map, Unmap and New between a table and its pool, by value alone: the plain cases.
-/
import Derived.Test.YtoejpdhcibbgdaaTj
namespace Go.Proofs.Ytoejpdhcibbgdaa
open Go.RowKit
set_option linter.unusedSimpArgs false
set_option linter.unusedVariables false

theorem prom_0 (o n : Nat) (ho : o < 4) (hn : n ≤ 64) : po0.promV o n = 0 := by
  rcases promV_cases po0 o n with ⟨_, h | h | h⟩ | ⟨_, _, _, ⟨_, h⟩ | ⟨_, ⟨_, h⟩ | ⟨h, _⟩⟩⟩
  · simp [oB] at h; omega
  · omega
  · omega
  · simp [po0, neB] at h
  · have : po0.allP 4 = 0 := by decide
    omega
  · exact h
theorem new_0 (o n : Nat) (ho : o < 4) (h1 : 1 ≤ n) (hn : n ≤ 64) : newE po0 o n = 0 ∧ newS po0 o n = po0.promS o n := by
  have e : newE po0 o n = 0 := by unfold newE; rw [if_neg (by omega)]; exact prom_0 o n ho hn
  exact ⟨e, by unfold newS; rw [if_pos e]⟩
theorem mapT_n (S : Po) (T : Ta) (k : Int) : (mapT S T k).n = T.n ∧ (mapT S T k).o = T.o := by unfold mapT; split <;> exact ⟨rfl, rfl⟩
theorem unT_n (T : Ta) (k : Int) : (unT T k).n = T.n ∧ (unT T k).o = T.o := by unfold unT; split <;> exact ⟨rfl, rfl⟩
theorem map_no {S : Po} {T : Ta} {k : Int} (h : T.pB k = false) : mapE S T k = 22 ∧ mapF S T k = 0 ∧ mapS S T k = S ∧ mapT S T k = T := by
  unfold mapE mapF mapS mapT; simp [h]
end Go.Proofs.Ytoejpdhcibbgdaa

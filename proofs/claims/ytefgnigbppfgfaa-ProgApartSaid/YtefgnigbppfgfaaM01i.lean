/- Layer 1, plain facts: what was read tells the bytes. -/
import Derived.Test.YtefgnigbppfgfaaM01r
import Derived.Test.YtefgnigbppfgfaaM01t
namespace Go.Proofs.Ytefgnigbppfgfaa
set_option linter.unusedVariables false

/-! Reading, backwards. -/
theorem num_read {m n : Nat} (h : n ≤ m) (h2 : U64 n) (r : List UInt8) : numS m (some (putL n ++ r)) = (n, some r) := by
  rw [numS_hit (getL_of_put h2 r) h]; simp
theorem int_read {m n : Nat} (h : n ≤ m) (h2 : U64 n) (r : List UInt8) : intS (m : Int) (some (putL n ++ r)) = (n, some r) := by
  rw [intS_pos, num_read h h2]
theorem num_inv {m n : Nat} {l r : List UInt8} (h : numS m (some l) = (n, some r)) : n ≤ m ∧ U64 n ∧ l = putL n ++ r := by
  unfold numS at h
  simp only at h
  cases hg : getL l with
  | none => rw [hg] at h; simp at h
  | some p =>
    obtain ⟨a, k⟩ := p
    rw [hg] at h
    simp only at h
    have hp := getL_put hg
    split at h
    · rename_i ha
      injection h with h1 h2
      injection h2 with h2
      subst h1
      refine ⟨ha, hp.1, ?_⟩
      rw [hp.2.1, ← h2, List.take_append_drop]
    · injection h with h1 h2; cases h2
theorem int_inv {m : Int} {n : Nat} {l r : List UInt8} (h : intS m (some l) = (n, some r)) : (n : Int) ≤ m ∧ U64 n ∧ l = putL n ++ r := by
  unfold intS at h
  split at h
  · injection h with h1 h2; cases h2
  · have := num_inv h
    exact ⟨by omega, this.2⟩
theorem int_none (m : Int) : intS m none = (0, none) := by unfold intS; split <;> rfl
theorem take_read {n : Nat} (t r : List UInt8) (h : t.length = n) : takeS (n : Int) (some (t ++ r)) = (t, some r) := by
  rw [takeS_ok (by rw [List.length_append]; omega), ← h]; simp
theorem take_inv {n : Nat} {l t r : List UInt8} (h : takeS (n : Int) (some l) = (t, some r)) : l = t ++ r ∧ t.length = n := by
  simp only [takeS] at h
  split at h
  · injection h with h1 h2; cases h2
  · injection h with h1 h2
    injection h2 with h2
    subst h1
    subst h2
    simp
    omega
theorem take_none (n : Int) : takeS n none = ([], none) := rfl
theorem text_read {t : List UInt8} (h : U64 t.length) (r : List UInt8) : textS (some (putL t.length ++ (t ++ r))) = (t, some r) := by
  rw [textS_top, numS_put h]
  simp only
  rw [if_neg (by rw [List.length_append]; omega), take_read t r rfl]
theorem text_inv {l t r : List UInt8} (h : textS (some l) = (t, some r)) : U64 t.length ∧ l = putL t.length ++ (t ++ r) := by
  rw [textS_top] at h
  cases hn : numS 18446744073709551615 (some l) with
  | mk n o =>
    rw [hn] at h
    cases o with
    | none => injection h with h1 h2; cases h2
    | some q =>
      simp only at h
      obtain ⟨_, h2, rfl⟩ := num_inv hn
      split at h
      · injection h with h1 h2; cases h2
      · obtain ⟨h3, h4⟩ := take_inv h
        subst h4
        exact ⟨h2, by rw [h3]⟩
theorem text_none : textS none = ([], none) := rfl
end Go.Proofs.Ytefgnigbppfgfaa

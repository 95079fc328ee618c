/- Layer 3, plain facts: what a change of one file is to the others; how much a box holds behind it. -/
import Derived.Test.YtlgpkbcefaldoaaDoorM03
namespace Go.Proofs.YtlgpkbcefaldoaaDoor
open Go.RowKit Go.Maps Go.Sort
set_option linter.unusedVariables false

theorem findK_addK {n k : Key} {d : List UInt8} (l : List (Key × FileS)) (h : n ≠ k) : findK k (addK n d l) = findK k l := by
  unfold addK
  cases hf : findK n l with
  | none => simp only; rw [findK_ins hf, if_neg h]
  | some f => simp only; rw [findK_upd hf, if_neg h]

theorem weigh_cons (x : Key × FileS) (l : List (Key × FileS)) : weigh (x :: l) = x.2.bytes.length + 1 + weigh l := by simp [weigh]
theorem weigh_append (a b : List (Key × FileS)) : weigh (a ++ b) = weigh a + weigh b := by simp [weigh]
theorem weigh_ins (x : Key × FileS) (l : List (Key × FileS)) : weigh (insK x l) = x.2.bytes.length + 1 + weigh l := by
  induction l with
  | nil => rw [insK, weigh_cons]
  | cons y r ih =>
    unfold insK
    split
    · rw [weigh_cons]
    · rw [weigh_cons, ih, weigh_cons]; omega
theorem weigh_upd {k : Key} {a b : FileS} {l : List (Key × FileS)} (h : findK k l = some b) : weigh (updK k a l) + b.bytes.length = weigh l + a.bytes.length := by
  induction l with
  | nil => cases h
  | cons y r ih =>
    rw [findK_cons] at h
    unfold updK
    by_cases hy : y.1 = k
    · rw [if_pos hy] at h ⊢
      injection h with h
      subst h
      rw [weigh_cons, weigh_cons]
      simp only
      omega
    · rw [if_neg hy] at h ⊢
      rw [weigh_cons, weigh_cons]
      have := ih h
      omega
theorem weigh_drop (k : Key) (l : List (Key × FileS)) : weigh (dropK k l) ≤ weigh l := by
  induction l with
  | nil => exact Nat.le_refl _
  | cons y r ih =>
    unfold dropK at *
    by_cases hy : y.1 = k
    · rw [List.filter_cons_of_neg (by simp [hy]), weigh_cons]; omega
    · rw [List.filter_cons_of_pos (by simp [hy]), weigh_cons, weigh_cons]; omega
theorem weigh_addK (n : Key) (d : List UInt8) (l : List (Key × FileS)) : weigh (addK n d l) ≤ weigh l + d.length + 1 := by
  unfold addK
  cases hf : findK n l with
  | none => simp only; rw [weigh_ins]; simp only; omega
  | some f =>
    simp only
    have := weigh_upd (a := addF d f) hf
    have h2 : (addF d f).bytes.length = f.bytes.length + d.length := by simp [addF]
    omega

theorem Bx.append_weigh (S : Bx) (n : Key) (d : List UInt8) : weigh (S.append n d).1.files ≤ weigh S.files + d.length + 1 := by
  unfold Bx.append
  split
  · simp only; omega
  · split
    · simp only; omega
    · unfold Bx.change
      split
      · show weigh S.files ≤ _; omega
      · exact weigh_addK _ _ _
theorem Bx.sync_weigh (S : Bx) (n : Key) : weigh (S.sync n).1.files ≤ weigh S.files := by
  unfold Bx.sync
  split
  · exact Nat.le_refl _
  · split
    · exact Nat.le_refl _
    · rename_i f hf
      unfold Bx.change
      split
      · exact Nat.le_refl _
      · have := weigh_upd (a := firmF f) hf
        have h2 : (firmF f).bytes.length = f.bytes.length := rfl
        show weigh (updK n (firmF f) S.files) ≤ _
        omega
theorem Bx.delete_weigh (S : Bx) (n : Key) : weigh (S.delete n).1.files ≤ weigh S.files := by
  unfold Bx.delete
  split
  · exact Nat.le_refl _
  · split
    · exact Nat.le_refl _
    · unfold Bx.change
      split
      · exact Nat.le_refl _
      · exact weigh_drop _ _
theorem crashL_weigh (keep : List Int) (l : List (Key × FileS)) : ∀ k, k ≤ l.length → weigh (crashL keep (l.take k)).1 ≤ weigh (l.take k) := by
  intro k
  induction k with
  | zero => intro _; simp [crashL, weigh]
  | succ k ih =>
    intro hk
    have h1 := ih (by omega)
    rw [crashL_take (by omega), List.take_succ_eq_append_getElem (by omega)]
    have h2 : weigh (l.take k ++ [l[k]]) = weigh (l.take k) + (l[k].2.bytes.length + 1) := by rw [weigh_append, weigh_cons]; rfl
    rw [h2]
    unfold crashStep
    simp only
    split
    · rw [weigh_ins]
      simp only [List.length_take]
      omega
    · omega
theorem Bx.crash_weigh (S : Bx) (keep : List Int) : weigh (S.crash keep).files ≤ weigh S.files := by
  have := crashL_weigh keep S.files S.files.length (Nat.le_refl _)
  rwa [List.take_length] at this

/-- A box without bounds in which a file has these bytes. -/
structure AInv (n : Key) (M : List UInt8) (S : Bx) : Prop where
  fuel : S.fuel = -1
  up : S.down = false
  file : ∃ f, findK n S.files = some f ∧ f.bytes = M
theorem AInv.change {n : Key} {M : List UInt8} {S : Bx} (h : AInv n M S) {f : List (Key × FileS)} (hf : findK n f = findK n S.files) : AInv n M (S.change f).1 := by
  rw [Bx.change_yes (by rw [h.fuel]; decide)]
  refine ⟨?_, h.up, ?_⟩
  · show (if 0 < S.fuel then S.fuel - 1 else S.fuel) = -1
    rw [h.fuel]; rfl
  · show ∃ g, findK n f = some g ∧ _
    rw [hf]; exact h.file
theorem AInv.append {n k : Key} {M : List UInt8} {S : Bx} (h : AInv n M S) (hk : k ≠ n) (d : List UInt8) : AInv n M (S.append k d).1 := by
  unfold Bx.append
  rw [if_neg (by rw [h.up]; decide)]
  split
  · exact h
  · exact h.change (findK_addK _ hk)
theorem AInv.sync {n k : Key} {M : List UInt8} {S : Bx} (h : AInv n M S) (hk : k ≠ n) : AInv n M (S.sync k).1 := by
  unfold Bx.sync
  rw [if_neg (by rw [h.up]; decide)]
  split
  · exact h
  · rename_i f hf
    exact h.change (by rw [findK_upd hf, if_neg hk])
theorem AInv.delete {n k : Key} {M : List UInt8} {S : Bx} (h : AInv n M S) (hk : k ≠ n) : AInv n M (S.delete k).1 := by
  unfold Bx.delete
  rw [if_neg (by rw [h.up]; decide)]
  split
  · exact h
  · exact h.change (by rw [findK_drop, if_neg hk])
theorem AInv.read {n : Key} {M : List UInt8} {S : Bx} (h : AInv n M S) : S.read n = (M, 0) := by
  obtain ⟨f, hf, hM⟩ := h.file
  rw [Bx.read_some h.up hf, hM]

end Go.Proofs.YtlgpkbcefaldoaaDoor

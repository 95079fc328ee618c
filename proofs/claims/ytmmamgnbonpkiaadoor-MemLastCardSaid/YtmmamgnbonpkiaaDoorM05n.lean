/- Layer 5, plain facts: nodes in the order of their keys, of which some are on higher levels too. -/
import Derived.Test.YtmmamgnbonpkiaaDoorM05
namespace Go.Proofs.YtmmamgnbonpkiaaDoor
open Go.RowKit
set_option linter.unusedVariables false

/-- A node: its block, its pair, on how many levels it is. -/
structure NodeS where
  blk : Nat
  pr : PairS
  high : Nat
/-- On how many levels the node at a place is. -/
def hiAt (N : List NodeS) (i : Nat) : Nat := (N[i]?.map NodeS.high).getD 0
/-- The first node's block on a level. -/
def nxL (j : Nat) : List NodeS → Option Nat
  | [] => none
  | x :: r => if j < x.high then some x.blk else nxL j r
theorem nxL_cons (j : Nat) (x : NodeS) (r : List NodeS) : nxL j (x :: r) = if j < x.high then some x.blk else nxL j r := rfl
/-- The block behind which q nodes have come: 0 is the head. -/
def blkAt (p : Nat) (N : List NodeS) : Nat → Nat
  | 0 => p
  | i + 1 => (N[i]?.map NodeS.blk).getD 0
/-- The last of the first pl nodes that is on a level. -/
def lastOn (j : Nat) (N : List NodeS) : Nat → Nat
  | 0 => 0
  | i + 1 => if j < hiAt N i then i + 1 else lastOn j N i
/-- Is it the head, or on that level? -/
def onB (N : List NodeS) (q j : Nat) : Prop := q = 0 ∨ j < hiAt N (q - 1)
instance (N : List NodeS) (q j : Nat) : Decidable (onB N q j) := by unfold onB; infer_instance
/-- What stands behind, on a level. -/
def lkAt (N : List NodeS) (q j : Nat) : Option Nat := if onB N q j then nxL j (N.drop q) else none

theorem hiAt_lt {N : List NodeS} {i : Nat} (h : i < N.length) : hiAt N i = N[i].high := by simp [hiAt, h]
theorem hiAt_ge {N : List NodeS} {i : Nat} (h : N.length ≤ i) : hiAt N i = 0 := by simp [hiAt, h]
theorem blkAt_succ {p : Nat} {N : List NodeS} {i : Nat} (h : i < N.length) : blkAt p N (i + 1) = N[i].blk := by simp [blkAt, h]
theorem lastOn_le (j : Nat) (N : List NodeS) : ∀ pl, lastOn j N pl ≤ pl
  | 0 => Nat.le_refl _
  | i + 1 => by unfold lastOn; split; exact Nat.le_refl _; exact Nat.le_succ_of_le (lastOn_le j N i)
theorem lastOn_on (j : Nat) (N : List NodeS) : ∀ pl, onB N (lastOn j N pl) j
  | 0 => .inl rfl
  | i + 1 => by unfold lastOn; split; (rename_i h; exact .inr h); exact lastOn_on j N i
theorem lastOn_gap (j : Nat) (N : List NodeS) : ∀ pl k, lastOn j N pl ≤ k → k < pl → hiAt N k ≤ j
  | 0, k, _, h => absurd h (by omega)
  | i + 1, k, h1, h2 => by
    unfold lastOn at h1
    split at h1
    · omega
    · rename_i h
      by_cases e : k = i
      · subst e; omega
      · exact lastOn_gap j N i k h1 (by omega)
theorem lastOn_of {j : Nat} {N : List NodeS} : ∀ {pl q : Nat}, q ≤ pl → onB N q j → (∀ k, q ≤ k → k < pl → hiAt N k ≤ j) → lastOn j N pl = q
  | 0, q, h, _, _ => by simp [lastOn]; omega
  | i + 1, q, h, ho, hg => by
    unfold lastOn
    by_cases e : q = i + 1
    · subst e
      rcases ho with ho | ho
      · omega
      · exact if_pos ho
    · have := hg i (by omega) (by omega)
      rw [if_neg (by omega)]
      exact lastOn_of (by omega) ho (fun k a b => hg k a (by omega))
theorem lastOn_zero {N : List NodeS} {pl : Nat} (h : ∀ i, i < pl → 1 ≤ hiAt N i) : lastOn 0 N pl = pl := by
  cases pl with
  | zero => rfl
  | succ i => have := h i (by omega); unfold lastOn; rw [if_pos (by omega)]
/-- What stands first on a level: nothing, or a node ahead of which none is on it. -/
theorem nxL_spec (j : Nat) : ∀ (N : List NodeS), (nxL j N = none ∧ ∀ i, hiAt N i ≤ j) ∨ ∃ i, ∃ h : i < N.length, nxL j N = some N[i].blk ∧ j < N[i].high ∧ ∀ k, k < i → hiAt N k ≤ j
  | [] => .inl ⟨rfl, fun i => by simp [hiAt]⟩
  | x :: r => by
    by_cases hx : j < x.high
    · exact .inr ⟨0, by simp, by simp [nxL, hx], hx, fun k hk => absurd hk (by omega)⟩
    · rcases nxL_spec j r with ⟨h1, h2⟩ | ⟨i, hi, h1, h2, h3⟩
      · refine .inl ⟨by simp [nxL, hx, h1], fun i => ?_⟩
        cases i with
        | zero => simp [hiAt]; omega
        | succ i => exact h2 i
      · refine .inr ⟨i + 1, by simpa using hi, by simp [nxL, hx, h1], by simpa using h2, fun k hk => ?_⟩
        cases k with
        | zero => simp [hiAt]; omega
        | succ k => exact h3 k (by omega)
theorem hiAt_drop (N : List NodeS) (q i : Nat) : hiAt (N.drop q) i = hiAt N (q + i) := by simp [hiAt, List.getElem?_drop]
theorem nxL_drop (j : Nat) (N : List NodeS) (q : Nat) : (nxL j (N.drop q) = none ∧ ∀ i, q ≤ i → hiAt N i ≤ j) ∨ ∃ i, ∃ h : i < N.length, q ≤ i ∧ nxL j (N.drop q) = some N[i].blk ∧ j < N[i].high ∧ ∀ k, q ≤ k → k < i → hiAt N k ≤ j := by
  rcases nxL_spec j (N.drop q) with ⟨h1, h2⟩ | ⟨i, hi, h1, h2, h3⟩
  · refine .inl ⟨h1, fun i hq => ?_⟩
    have := h2 (i - q)
    rw [hiAt_drop, show q + (i - q) = i by omega] at this
    exact this
  · have hl : q + i < N.length := by simp at hi; omega
    refine .inr ⟨q + i, hl, by omega, by rw [h1]; simp, by simpa using h2, fun k a b => ?_⟩
    have := h3 (k - q) (by omega)
    rw [hiAt_drop, show q + (k - q) = k by omega] at this
    exact this
theorem nxL_of_gap {j : Nat} {N : List NodeS} {q r : Nat} (hqr : q ≤ r) (h : ∀ k, q ≤ k → k < r → hiAt N k ≤ j) : nxL j (N.drop q) = nxL j (N.drop r) := by
  obtain ⟨d, rfl⟩ : ∃ d, r = q + d := ⟨r - q, by omega⟩
  clear hqr
  induction d with
  | zero => rfl
  | succ d ih =>
    rw [ih (fun k a b => h k a (by omega))]
    by_cases hl : q + d < N.length
    · have := h (q + d) (by omega) (by omega)
      rw [hiAt_lt hl] at this
      rw [List.drop_eq_getElem_cons hl, nxL_cons, if_neg (by omega)]; rfl
    · rw [List.drop_of_length_le (by omega), List.drop_of_length_le (by omega)]
theorem nxL_here {j : Nat} {N : List NodeS} {q : Nat} (hl : q < N.length) (h : j < N[q].high) : nxL j (N.drop q) = some N[q].blk := by
  rw [List.drop_eq_getElem_cons hl, nxL_cons, if_pos h]

theorem nodup_inj {l : List Nat} (h : l.Nodup) {i j : Nat} (hi : i < l.length) (e : l[i]? = l[j]?) : i = j := (List.getElem?_inj hi h).1 e
/-- Blocks are apart. -/
theorem blkAt_inj {p : Nat} {N : List NodeS} (h : (p :: N.map NodeS.blk).Nodup) {q r : Nat} (hq : q ≤ N.length) (hr : r ≤ N.length) (e : blkAt p N q = blkAt p N r) : q = r := by
  have key : ∀ i, i ≤ N.length → (p :: N.map NodeS.blk)[i]? = some (blkAt p N i) := fun i hi => by
    cases i with
    | zero => rfl
    | succ i => simp [blkAt, show i < N.length by omega]
  have h1 := key q hq
  have h2 := key r hr
  rw [← e] at h2
  exact nodup_inj h (by simp; omega) (h1.trans h2.symm)
theorem blkAt_mem {p : Nat} {N : List NodeS} {F : Nat → Prop} (hp : F p) (hN : ∀ x ∈ N, F x.blk) {q : Nat} (hq : q ≤ N.length) : F (blkAt p N q) := by
  cases q with
  | zero => exact hp
  | succ i => rw [blkAt_succ (show i < N.length by omega)]; exact hN _ (List.getElem_mem _)

/-! A node more, on no level as yet; one level more. -/
def withNode (N : List NodeS) (pl : Nat) (x : NodeS) : List NodeS := N.take pl ++ x :: N.drop pl
theorem withNode_len {N : List NodeS} {pl : Nat} (h : pl ≤ N.length) (x : NodeS) : (withNode N pl x).length = N.length + 1 := by simp [withNode]; omega
theorem withNode_at {N : List NodeS} {pl : Nat} (h : pl ≤ N.length) (x : NodeS) (i : Nat) : (withNode N pl x)[i]? = if i < pl then N[i]? else if i = pl then some x else N[i - 1]? := by
  unfold withNode
  by_cases h1 : i < pl
  · rw [if_pos h1, List.getElem?_append_left (by simp; omega), List.getElem?_take_of_lt h1]
  · rw [if_neg h1, List.getElem?_append_right (by simp; omega)]
    have hl : (N.take pl).length = pl := by simp; omega
    rw [hl]
    by_cases h2 : i = pl
    · subst h2; simp
    · rw [if_neg h2]
      obtain ⟨d, rfl⟩ : ∃ d, i = pl + d + 1 := ⟨i - pl - 1, by omega⟩
      rw [show pl + d + 1 - pl = d + 1 by omega, List.getElem?_cons_succ, List.getElem?_drop, show pl + d + 1 - 1 = pl + d by omega]
theorem hiAt_with {N : List NodeS} {pl : Nat} (h : pl ≤ N.length) (x : NodeS) (i : Nat) : hiAt (withNode N pl x) i = if i < pl then hiAt N i else if i = pl then x.high else hiAt N (i - 1) := by
  unfold hiAt
  rw [withNode_at h]
  split
  · rfl
  · split <;> rfl
theorem drop_with_ge {N : List NodeS} {pl : Nat} (h : pl ≤ N.length) (x : NodeS) (q : Nat) (hq : pl < q) : (withNode N pl x).drop q = N.drop (q - 1) := by
  apply List.ext_getElem?
  intro i
  rw [List.getElem?_drop, List.getElem?_drop, withNode_at h, if_neg (by omega), if_neg (by omega)]
  congr 1
  omega
theorem drop_with_at {N : List NodeS} {pl : Nat} (h : pl ≤ N.length) (x : NodeS) : (withNode N pl x).drop pl = x :: N.drop pl := by
  have hl : (N.take pl).length = pl := by simp; omega
  unfold withNode
  rw [List.drop_append_of_le_length (by omega), List.drop_of_length_le (by omega)]
  rfl
/-! What stands first on a level from a place at or ahead of the new node. -/
theorem nxL_with_low {N : List NodeS} {pl : Nat} (h : pl ≤ N.length) {x : NodeS} {j : Nat} (hx : x.high ≤ j) : ∀ (d q : Nat), q + d = pl → nxL j ((withNode N pl x).drop q) = nxL j (N.drop q)
  | 0, q, e => by
    obtain rfl : q = pl := by omega
    rw [drop_with_at h, nxL_cons, if_neg (by omega)]
  | d + 1, q, e => by
    have hl : q < N.length := by omega
    have h2 : (withNode N pl x)[q]? = some N[q] := by rw [withNode_at h, if_pos (by omega)]; simp [hl]
    obtain ⟨h3, h4⟩ := List.getElem?_eq_some_iff.1 h2
    rw [List.drop_eq_getElem_cons h3, List.drop_eq_getElem_cons hl, h4, nxL_cons, nxL_cons, nxL_with_low h hx d (q + 1) (by omega)]
theorem nxL_with_gap {N : List NodeS} {pl : Nat} (h : pl ≤ N.length) {x : NodeS} {j : Nat} (hx : j < x.high) : ∀ (d q : Nat), q + d = pl → (∀ k, q ≤ k → k < pl → hiAt N k ≤ j) → nxL j ((withNode N pl x).drop q) = some x.blk
  | 0, q, e, _ => by
    obtain rfl : q = pl := by omega
    rw [drop_with_at h, nxL_cons, if_pos hx]
  | d + 1, q, e, g => by
    have hl : q < N.length := by omega
    have h2 : (withNode N pl x)[q]? = some N[q] := by rw [withNode_at h, if_pos (by omega)]; simp [hl]
    obtain ⟨h3, h4⟩ := List.getElem?_eq_some_iff.1 h2
    have h5 := g q (by omega) (by omega)
    rw [hiAt_lt hl] at h5
    rw [List.drop_eq_getElem_cons h3, h4, nxL_cons, if_neg (by omega)]
    exact nxL_with_gap h hx d (q + 1) (by omega) (fun k a b => g k (by omega) b)
theorem nxL_with_hit {N : List NodeS} {pl : Nat} (h : pl ≤ N.length) {x : NodeS} {j k : Nat} (hk : k < pl) (hj : j < hiAt N k) : ∀ (d q : Nat), q + d = k → nxL j ((withNode N pl x).drop q) = nxL j (N.drop q)
  | 0, q, e => by
    obtain rfl : q = k := by omega
    have hl : q < N.length := by omega
    have h2 : (withNode N pl x)[q]? = some N[q] := by rw [withNode_at h, if_pos (by omega)]; simp [hl]
    obtain ⟨h3, h4⟩ := List.getElem?_eq_some_iff.1 h2
    rw [hiAt_lt hl] at hj
    rw [List.drop_eq_getElem_cons h3, List.drop_eq_getElem_cons hl, h4, nxL_cons, nxL_cons, if_pos hj, if_pos hj]
  | d + 1, q, e => by
    have hl : q < N.length := by omega
    have h2 : (withNode N pl x)[q]? = some N[q] := by rw [withNode_at h, if_pos (by omega)]; simp [hl]
    obtain ⟨h3, h4⟩ := List.getElem?_eq_some_iff.1 h2
    rw [List.drop_eq_getElem_cons h3, List.drop_eq_getElem_cons hl, h4, nxL_cons, nxL_cons, nxL_with_hit h hk hj d (q + 1) (by omega)]

/-! The links of all, where a node has come on no level; where it comes on one more. -/
theorem onB_with {N : List NodeS} {pl : Nat} (h : pl ≤ N.length) (x : NodeS) (q j : Nat) : onB (withNode N pl x) q j ↔ if q ≤ pl then onB N q j else if q = pl + 1 then j < x.high else onB N (q - 1) j := by
  unfold onB
  cases q with
  | zero => simp
  | succ i =>
    rw [Nat.add_sub_cancel, hiAt_with h]
    rcases Nat.lt_trichotomy i pl with h1 | h1 | h1
    · rw [if_pos h1, if_pos (show i + 1 ≤ pl by omega)]
    · rw [if_neg (show ¬ i < pl by omega), if_pos h1, if_neg (show ¬ i + 1 ≤ pl by omega), if_pos (show i + 1 = pl + 1 by omega)]
      simp
    · rw [if_neg (show ¬ i < pl by omega), if_neg (show ¬ i = pl by omega), if_neg (show ¬ i + 1 ≤ pl by omega), if_neg (show ¬ i + 1 = pl + 1 by omega)]
      constructor
      · rintro (a | a)
        · omega
        · exact .inr a
      · rintro (a | a)
        · omega
        · exact .inr a
theorem lkAt_on {N : List NodeS} {q j : Nat} (h : onB N q j) : lkAt N q j = nxL j (N.drop q) := if_pos h
theorem lkAt_off {N : List NodeS} {q j : Nat} (h : ¬ onB N q j) : lkAt N q j = none := if_neg h
/-- The new node on no level: the others stand as they stood. -/
theorem lkAt_new {N : List NodeS} {pl : Nat} (h : pl ≤ N.length) {x : NodeS} (hx : x.high = 0) (q j : Nat) : lkAt (withNode N pl x) q j = if q ≤ pl then lkAt N q j else if q = pl + 1 then none else lkAt N (q - 1) j := by
  have ho := onB_with h x q j
  by_cases h1 : q ≤ pl
  · rw [if_pos h1] at ho ⊢
    have e : nxL j ((withNode N pl x).drop q) = nxL j (N.drop q) := nxL_with_low h (by omega) (pl - q) q (by omega)
    by_cases h2 : onB N q j
    · rw [lkAt_on (ho.2 h2), lkAt_on h2, e]
    · rw [lkAt_off (fun c => h2 (ho.1 c)), lkAt_off h2]
  · rw [if_neg h1] at ho ⊢
    by_cases h2 : q = pl + 1
    · rw [if_pos h2] at ho ⊢
      exact lkAt_off (fun c => by have := ho.1 c; omega)
    · rw [if_neg h2] at ho ⊢
      by_cases h3 : onB N (q - 1) j
      · rw [lkAt_on (ho.2 h3), lkAt_on h3, drop_with_ge h x q (by omega)]
      · rw [lkAt_off (fun c => h3 (ho.1 c)), lkAt_off h3]
/-- The new node on one level more. -/
theorem lkAt_up {N : List NodeS} {pl : Nat} (h : pl ≤ N.length) {x y : NodeS} (hb : y.blk = x.blk) {lv : Nat} (hx : x.high = lv) (hy : y.high = lv + 1) (q j : Nat) :
    lkAt (withNode N pl y) q j = if q = lastOn lv N pl ∧ j = lv then some x.blk else if q = pl + 1 ∧ j = lv then nxL lv (N.drop pl) else lkAt (withNode N pl x) q j := by
  have hq0 := lastOn_le lv N pl
  have ox := onB_with h x q j
  have oy := onB_with h y q j
  by_cases h1 : q ≤ pl
  · rw [if_pos h1] at ox oy
    rw [if_neg (show ¬ (q = pl + 1 ∧ j = lv) by omega)]
    by_cases h2 : onB N q j
    · rw [lkAt_on (oy.2 h2), lkAt_on (ox.2 h2)]
      by_cases hj : j = lv
      · subst hj
        by_cases e : q = lastOn j N pl
        · rw [if_pos ⟨e, rfl⟩, nxL_with_gap h (by omega) (pl - q) q (by omega) (fun k a b => lastOn_gap j N pl k (by omega) b), hb]
        · rw [if_neg (fun c => e c.1)]
          have hlt : q < lastOn j N pl := by
            rcases Nat.lt_or_ge q (lastOn j N pl) with c | c
            · exact c
            · exfalso
              apply e
              refine (lastOn_of h1 h2 (fun k a b => lastOn_gap j N pl k (by omega) b)).symm
          rcases lastOn_on j N pl with c | c
          · omega
          · rw [nxL_with_hit h (k := lastOn j N pl - 1) (by omega) c (lastOn j N pl - 1 - q) q (by omega), nxL_with_low h (by omega) (pl - q) q (by omega)]
      · rw [if_neg (fun c => hj c.2)]
        by_cases h3 : j < lv
        · rcases Classical.em (∀ k, q ≤ k → k < pl → hiAt N k ≤ j) with g | g
          · rw [nxL_with_gap h (by omega) (pl - q) q (by omega) g, nxL_with_gap h (by omega) (pl - q) q (by omega) g, hb]
          · obtain ⟨k, a, b, c⟩ : ∃ k, q ≤ k ∧ k < pl ∧ j < hiAt N k := by
              apply Classical.byContradiction
              intro n
              exact g (fun k a b => Nat.le_of_not_lt (fun c => n ⟨k, a, b, c⟩))
            rw [nxL_with_hit h b c (k - q) q (by omega), nxL_with_hit h b c (k - q) q (by omega)]
        · rw [nxL_with_low h (by omega) (pl - q) q (by omega), nxL_with_low h (by omega) (pl - q) q (by omega)]
    · rw [lkAt_off (fun c => h2 (oy.1 c)), lkAt_off (fun c => h2 (ox.1 c)), if_neg]
      rintro ⟨rfl, rfl⟩
      exact h2 (lastOn_on j N pl)
  · rw [if_neg h1] at ox oy
    rw [if_neg (show ¬ (q = lastOn lv N pl ∧ j = lv) by omega)]
    by_cases h2 : q = pl + 1
    · rw [if_pos h2] at ox oy
      by_cases hj : j = lv
      · rw [if_pos ⟨h2, hj⟩, lkAt_on (oy.2 (by omega)), drop_with_ge h y q (by omega), h2, hj, Nat.add_sub_cancel]
      · rw [if_neg (show ¬ (q = pl + 1 ∧ j = lv) from fun c => hj c.2)]
        by_cases h3 : j < lv
        · rw [lkAt_on (oy.2 (by omega)), lkAt_on (ox.2 (by omega)), drop_with_ge h y q (by omega), drop_with_ge h x q (by omega)]
        · rw [lkAt_off (fun c => by have := oy.1 c; omega), lkAt_off (fun c => by have := ox.1 c; omega)]
    · rw [if_neg h2] at ox oy
      rw [if_neg (show ¬ (q = pl + 1 ∧ j = lv) from fun c => h2 c.1)]
      by_cases h3 : onB N (q - 1) j
      · rw [lkAt_on (oy.2 h3), lkAt_on (ox.2 h3), drop_with_ge h y q (by omega), drop_with_ge h x q (by omega)]
      · rw [lkAt_off (fun c => h3 (oy.1 c)), lkAt_off (fun c => h3 (ox.1 c))]
end Go.Proofs.YtmmamgnbonpkiaaDoor

/- Layer 5, plain facts: a list of pairs in the order of their keys. -/
import Derived.Test.YtfnbkmmfaaklnaaDoorI01
namespace Go.Proofs.YtfnbkmmfaaklnaaDoor
open Go.RowKit
set_option linter.unusedVariables false

/-- Is a key before another one? -/
def befB (a b : ByteArray) : Bool := Op.bytesLess a.toList b.toList
theorem less_lt : ∀ a b : List UInt8, Op.bytesLess a b = true ↔ a < b
  | [], [] => by simp [Op.bytesLess]
  | [], _ :: _ => by simp [Op.bytesLess]
  | _ :: _, [] => by simp [Op.bytesLess]
  | a :: r, b :: s => by
    rw [List.cons_lt_cons_iff, ← less_lt r s]
    simp [Op.bytesLess]
theorem befB_lt (a b : ByteArray) : befB a b = true ↔ a.data.toList < b.data.toList := by
  unfold befB
  rw [ByteArray.toList_eq, ByteArray.toList_eq, less_lt]
/-- Where a key stands, or would stand. -/
def placeP (k : ByteArray) : List PairS → Nat
  | [] => 0
  | y :: r => if befB y.key k then placeP k r + 1 else 0
/-- Is a pair of this key there, where it would stand? -/
def thereP (k : ByteArray) (l : List PairS) : Bool := match l[placeP k l]? with | some y => decide (y.key = k) | none => false
/-- The pair of this key, if it is there. -/
def getP (k : ByteArray) (l : List PairS) : Option PairS := if thereP k l then l[placeP k l]? else none
def fromP (k : ByteArray) (l : List PairS) : List PairS := l.drop (placeP k l)
/-- A pair, put where it belongs. -/
def putP (p : PairS) (l : List PairS) : List PairS := l.take (placeP p.key l) ++ p :: l.drop (placeP p.key l + if thereP p.key l then 1 else 0)
def sizeP (l : List PairS) : Nat := (l.map fun p => p.key.size + p.val.size).sum
def zeroP : PairS := ⟨⟨#[]⟩, ⟨#[]⟩, false⟩
/-- The error of a pair. -/
def wrongP (p : PairS) : Nat :=
  if p.key.size = 0 ∨ (p.gone = true ∧ p.val.size ≠ 0) then 1 else if 64 < p.key.size ∨ 8192 < p.val.size then 2 else 0
/-- In the order of the keys, each once. -/
def RisingP (l : List PairS) : Prop := l.Pairwise fun a b => befB a.key b.key = true

theorem befB_irrefl (a : ByteArray) : befB a a = false := by
  cases h : befB a a with
  | false => rfl
  | true => exact absurd ((befB_lt _ _).1 h) (List.lt_irrefl _)
theorem befB_asymm {a b : ByteArray} (h : befB a b = true) : befB b a = false := by
  cases h2 : befB b a with
  | false => rfl
  | true => exact absurd (List.lt_trans ((befB_lt _ _).1 h) ((befB_lt _ _).1 h2)) (List.lt_irrefl _)
theorem befB_trans {a b c : ByteArray} (h : befB a b = true) (k : befB b c = true) : befB a c = true := (befB_lt _ _).2 (List.lt_trans ((befB_lt _ _).1 h) ((befB_lt _ _).1 k))
theorem befB_total {a b : ByteArray} (h : a ≠ b) (h2 : befB a b = false) : befB b a = true := by
  rw [befB_lt]
  have h3 : ¬ a.data.toList < b.data.toList := fun hl => by rw [(befB_lt a b).2 hl] at h2; cases h2
  rcases Classical.em (b.data.toList < a.data.toList) with h4 | h4
  · exact h4
  · exact absurd (ByteArray.ext (Array.toList_inj.1 (List.le_antisymm (List.not_lt.1 h4) (List.not_lt.1 h3)))) h

theorem keyEq (a b : ByteArray) : (a.toList == b.toList) = decide (a = b) := by
  rw [ByteArray.toList_eq, ByteArray.toList_eq]
  by_cases h : a = b
  · subst h; simp
  · have h2 : ¬ a.data = b.data := fun e => h (ByteArray.ext e)
    simp [h, h2]
theorem sizeP_append (a b : List PairS) : sizeP (a ++ b) = sizeP a + sizeP b := by simp [sizeP]
theorem sizeP_cons (x : PairS) (l : List PairS) : sizeP (x :: l) = x.key.size + x.val.size + sizeP l := by simp [sizeP]
theorem sizeP_take (l : List PairS) (i : Nat) : sizeP (l.take i) ≤ sizeP l := by
  have := sizeP_append (l.take i) (l.drop i)
  rw [List.take_append_drop] at this
  omega
theorem sizeP_drop (l : List PairS) (i : Nat) : sizeP (l.drop i) ≤ sizeP l := by
  have := sizeP_append (l.take i) (l.drop i)
  rw [List.take_append_drop] at this
  omega
theorem sizeP_next {l : List PairS} {i : Nat} (h : i < l.length) : sizeP (l.take (i + 1)) = sizeP (l.take i) + (l[i].key.size + l[i].val.size) := by
  rw [← List.take_append_getElem h, sizeP_append, sizeP_cons]
  simp [sizeP]
theorem placeP_cons (k : ByteArray) (y : PairS) (r : List PairS) : placeP k (y :: r) = if befB y.key k then placeP k r + 1 else 0 := rfl
theorem placeP_le (k : ByteArray) (l : List PairS) : placeP k l ≤ l.length := by
  induction l with
  | nil => simp [placeP]
  | cons y r ih => unfold placeP; split <;> simp <;> omega
theorem placeP_of {k : ByteArray} {l : List PairS} {i : Nat} (hi : i ≤ l.length) (h1 : ∀ j (h : j < l.length), j < i → befB l[j].key k = true) (h2 : ∀ h : i < l.length, befB l[i].key k = false) : placeP k l = i := by
  induction l generalizing i with
  | nil => simp at hi; subst hi; rfl
  | cons y r ih =>
    unfold placeP
    cases i with
    | zero =>
      have := h2 (by simp)
      simp only [List.getElem_cons_zero] at this
      rw [this]; rfl
    | succ i =>
      have := h1 0 (by simp) (by omega)
      simp only [List.getElem_cons_zero] at this
      rw [if_pos this, ih (by simpa using hi) (fun j h hj => by have := h1 (j + 1) (by simpa using h) (by omega); simpa using this) (fun h => by have := h2 (by simpa using h); simpa using this)]
theorem placeP_before {k : ByteArray} : ∀ {l : List PairS} {j : Nat} (h : j < l.length), j < placeP k l → befB l[j].key k = true
  | [], _, h, _ => absurd h (by simp)
  | y :: r, j, h, hj => by
    unfold placeP at hj
    split at hj
    · rename_i hy
      cases j with
      | zero => exact hy
      | succ j => exact placeP_before (l := r) (by simpa using h) (by omega)
    · omega
theorem placeP_at {k : ByteArray} : ∀ {l : List PairS} (h : placeP k l < l.length), befB l[placeP k l].key k = false
  | [], h => absurd h (by simp)
  | y :: r, h => by
    by_cases hy : befB y.key k = true
    · have e : placeP k (y :: r) = placeP k r + 1 := by rw [placeP_cons, if_pos hy]
      have hl : placeP k r < r.length := by rw [e] at h; simpa using h
      have := placeP_at hl
      simp only [e, List.getElem_cons_succ]
      exact this
    · have e : placeP k (y :: r) = 0 := by rw [placeP_cons, if_neg hy]
      simp only [e, List.getElem_cons_zero]
      simpa using hy
theorem thereP_lt {k : ByteArray} {l : List PairS} (h : thereP k l = true) : ∃ h : placeP k l < l.length, l[placeP k l].key = k := by
  unfold thereP at h
  split at h
  · rename_i y hy
    obtain ⟨h1, h2⟩ := List.getElem?_eq_some_iff.1 hy
    exact ⟨h1, by rw [h2]; simpa using h⟩
  · cases h
theorem thereP_of {k : ByteArray} {l : List PairS} {i : Nat} (hi : i < l.length) (hp : placeP k l = i) : thereP k l = decide (l[i].key = k) := by
  unfold thereP
  rw [hp, List.getElem?_eq_getElem hi]
theorem thereP_none {k : ByteArray} {l : List PairS} (hp : placeP k l = l.length) : thereP k l = false := by
  unfold thereP
  rw [hp, List.getElem?_eq_none (Nat.le_refl _)]

theorem rowP_append (a b : List PairS) : rowP (a ++ b) = rowP a ++ rowP b := by simp [rowP]
theorem rowP_cons (x : PairS) (l : List PairS) : rowP (x :: l) = [.string x.key, .string x.val, .bool x.gone] ++ rowP l := rfl
theorem rowP_take (l : List PairS) (k : Nat) : (rowP l).take (k * 3) = rowP (l.take k) := by
  induction l generalizing k with
  | nil => simp [rowP]
  | cons x r ih =>
    cases k with
    | zero => simp [rowP]
    | succ k =>
      rw [rowP_cons, List.take_succ_cons, rowP_cons, show (k + 1) * 3 = [Value.string x.key, .string x.val, .bool x.gone].length + k * 3 by simp; omega, List.take_length_add_append, ih]
theorem rowP_drop (l : List PairS) (k : Nat) : (rowP l).drop (k * 3) = rowP (l.drop k) := by
  induction l generalizing k with
  | nil => simp [rowP]
  | cons x r ih =>
    cases k with
    | zero => simp [rowP]
    | succ k =>
      rw [rowP_cons, List.drop_succ_cons, show (k + 1) * 3 = [Value.string x.key, .string x.val, .bool x.gone].length + k * 3 by simp; omega, List.drop_length_add_append, ih]
theorem rowP_at : ∀ (l : List PairS) (i : Nat) (h : i < l.length), (rowP l)[i * 3]? = some (.string l[i].key) ∧ (rowP l)[i * 3 + 1]? = some (.string l[i].val) ∧ (rowP l)[i * 3 + 2]? = some (.bool l[i].gone)
  | x :: r, 0, _ => ⟨rfl, rfl, rfl⟩
  | x :: r, i + 1, h => by
    have hi : i < r.length := by simpa using h
    have := rowP_at r i hi
    rw [rowP_cons]
    refine ⟨?_, ?_, ?_⟩
    · rw [List.getElem?_append_right (by simp; omega)]
      show (rowP r)[(i + 1) * 3 - 3]? = some (.string r[i].key)
      rw [show (i + 1) * 3 - 3 = i * 3 by omega]; exact this.1
    · rw [List.getElem?_append_right (by simp; omega)]
      show (rowP r)[(i + 1) * 3 + 1 - 3]? = some (.string r[i].val)
      rw [show (i + 1) * 3 + 1 - 3 = i * 3 + 1 by omega]; exact this.2.1
    · rw [List.getElem?_append_right (by simp; omega)]
      show (rowP r)[(i + 1) * 3 + 2 - 3]? = some (.bool r[i].gone)
      rw [show (i + 1) * 3 + 2 - 3 = i * 3 + 2 by omega]; exact this.2.2
theorem rowP_one (l : List PairS) : ∀ u ∈ rowP l, u.oneCell' = true := by
  intro u hu
  unfold rowP PairS.cells at hu
  obtain ⟨x, _, hx⟩ := List.mem_flatMap.1 hu
  simp only [List.mem_cons, List.not_mem_nil, or_false] at hx
  rcases hx with rfl | rfl | rfl <;> rfl

theorem putP_len (p : PairS) (l : List PairS) : (putP p l).length ≤ l.length + 1 := by
  have := placeP_le p.key l
  unfold putP
  rw [List.length_append, List.length_take, List.length_cons, List.length_drop]
  split <;> omega
theorem mem_putP {p q : PairS} {l : List PairS} (h : q ∈ putP p l) : q = p ∨ q ∈ l := by
  unfold putP at h
  rcases List.mem_append.1 h with h | h
  · exact .inr (List.mem_of_mem_take h)
  · rcases List.mem_cons.1 h with h | h
    · exact .inl h
    · exact .inr (List.mem_of_mem_drop h)
theorem putP_rising {p : PairS} {l : List PairS} (h : RisingP l) : RisingP (putP p l) := by
  have h3 : ∀ b ∈ l.drop (placeP p.key l + if thereP p.key l then 1 else 0), befB p.key b.key = true := by
    intro b hb
    obtain ⟨i, hi⟩ := List.mem_iff_getElem?.1 hb
    rw [List.getElem?_drop] at hi
    obtain ⟨h4, h5⟩ := List.getElem?_eq_some_iff.1 hi
    have hpl : placeP p.key l < l.length := by omega
    by_cases he : placeP p.key l = placeP p.key l + (if thereP p.key l then 1 else 0) + i
    · have ht : thereP p.key l = false := by
        cases ht : thereP p.key l with
        | false => rfl
        | true => rw [ht] at he; simp at he; omega
      rw [thereP_of hpl rfl] at ht
      have h6 : l[placeP p.key l] = b := by
        simp only [← he] at h5
        exact h5
      rw [h6] at ht
      have h7 := placeP_at hpl
      rw [h6] at h7
      exact befB_total (by simpa using ht) h7
    · have h6 := List.pairwise_iff_getElem.1 h _ _ hpl h4 (by omega)
      rw [h5] at h6
      have h7 := placeP_at hpl
      by_cases h8 : l[placeP p.key l].key = p.key
      · rw [h8] at h6; exact h6
      · exact befB_trans (befB_total h8 h7) h6
  unfold RisingP putP
  rw [List.pairwise_append]
  refine ⟨h.sublist (List.take_sublist _ _), List.pairwise_cons.2 ⟨h3, h.sublist (List.drop_sublist _ _)⟩, fun a ha b hb => ?_⟩
  obtain ⟨i, hi⟩ := List.mem_iff_getElem?.1 ha
  rw [List.getElem?_take] at hi
  split at hi
  · rename_i hl
    obtain ⟨h4, h5⟩ := List.getElem?_eq_some_iff.1 hi
    have hap := placeP_before h4 hl
    rw [h5] at hap
    rcases List.mem_cons.1 hb with rfl | hb
    · exact hap
    · exact befB_trans hap (h3 b hb)
  · cases hi
end Go.Proofs.YtfnbkmmfaaklnaaDoor

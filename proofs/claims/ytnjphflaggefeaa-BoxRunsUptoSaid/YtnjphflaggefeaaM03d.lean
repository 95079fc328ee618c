/- Layer 3, plain facts: places in the order of the keys. -/
import Derived.Test.YtnjphflaggefeaaM03b
import Derived.Lib.Bytealg
namespace Go.Proofs.Ytnjphflaggefeaa
open Go.RowKit Go.Maps Go.Sort
set_option linter.unusedVariables false

/-- Where a key stands, or would stand. -/
def placeK {α : Type} (n : Key) : List (Key × α) → Nat
  | [] => 0
  | y :: r => if bytesBefore y.1 n then placeK n r + 1 else 0

theorem compare_before : ∀ a b : Key, (Lib.compareBytes a b < 0 ↔ bytesBefore a b = true)
  | [], [] => by simp [Lib.compareBytes, bytesBefore]
  | [], _ :: _ => by simp [Lib.compareBytes, bytesBefore]
  | _ :: _, [] => by simp [Lib.compareBytes, bytesBefore]
  | a :: r, b :: s => by
    have ih := compare_before r s
    unfold Lib.compareBytes bytesBefore
    by_cases h1 : a < b
    · simp [h1]
    · by_cases h2 : b < a
      · have hne : ¬ a = b := fun e => by subst e; exact h1 h2
        simp [h1, h2, hne]
      · have he : a = b := by
          have := UInt8.le_antisymm (UInt8.not_lt.1 h2) (UInt8.not_lt.1 h1)
          exact this
        simp [h1, h2, he]
        exact ih

theorem before_asymm {a b : Key} (h : bytesBefore a b = true) : bytesBefore b a = false := by
  cases h2 : bytesBefore b a with
  | false => rfl
  | true => exact absurd (List.lt_trans ((before_lt a b).1 h) ((before_lt b a).1 h2)) (List.lt_irrefl a)
theorem before_total {a b : Key} (h : a ≠ b) (h2 : bytesBefore a b = false) : bytesBefore b a = true := by
  rw [before_lt]
  have h3 : ¬ a < b := fun hl => by rw [(before_lt a b).2 hl] at h2; cases h2
  rcases Classical.em (b < a) with h4 | h4
  · exact h4
  · exact absurd (List.le_antisymm (List.not_lt.1 h4) (List.not_lt.1 h3)) h

section
variable {α : Type} {n : Key} {l : List (Key × α)}

theorem place_le : placeK n l ≤ l.length := by
  induction l with
  | nil => simp [placeK]
  | cons y r ih => unfold placeK; split <;> simp <;> omega
theorem place_of {k : Nat} (hk : k ≤ l.length) (h1 : ∀ j (h : j < l.length), j < k → bytesBefore l[j].1 n = true) (h2 : ∀ h : k < l.length, bytesBefore l[k].1 n = false) : placeK n l = k := by
  induction l generalizing k with
  | nil => simp at hk; subst hk; rfl
  | cons y r ih =>
    unfold placeK
    cases k with
    | zero =>
      have := h2 (by simp)
      simp only [List.getElem_cons_zero] at this
      rw [this]; rfl
    | succ k =>
      have := h1 0 (by simp) (by omega)
      simp only [List.getElem_cons_zero] at this
      rw [this, if_pos rfl, ih (k := k) (by simpa using hk) (fun j hj hjk => h1 (j + 1) (by simpa using hj) (by omega)) (fun h => h2 (by simpa using h))]
/-- What stands at its place. -/
theorem find_place (hr : Rising l) : findK n l = if h : placeK n l < l.length then (if l[placeK n l].1 = n then some l[placeK n l].2 else none) else none := by
  induction l with
  | nil => simp [findK, placeK]
  | cons y r ih =>
    obtain ⟨h1, h2⟩ := List.pairwise_cons.1 hr
    rw [findK_cons]
    by_cases hb : bytesBefore y.1 n = true
    · have hne : y.1 ≠ n := fun e => by rw [e, bytes_irrefl] at hb; cases hb
      rw [if_neg hne, ih h2]
      have hp : placeK n (y :: r) = placeK n r + 1 := by rw [placeK, if_pos hb]
      simp only [hp, List.length_cons, List.getElem_cons_succ, Nat.add_lt_add_iff_right]
    · have hp : placeK n (y :: r) = 0 := by rw [placeK, if_neg hb]
      simp only [hp, List.length_cons, List.getElem_cons_zero, Nat.zero_lt_succ, dif_pos]
      by_cases he : y.1 = n
      · rw [if_pos he, if_pos he]
      · rw [if_neg he, if_neg he, findK_none]
        intro p hp2 e
        have h3 := before_total he (by simpa using hb)
        have h4 := h1 p hp2
        rw [e] at h4
        rw [before_asymm h4] at h3
        cases h3
theorem ins_place (hf : findK n l = none) (a : α) : insK (n, a) l = l.take (placeK n l) ++ (n, a) :: l.drop (placeK n l) := by
  induction l with
  | nil => rfl
  | cons y r ih =>
    rw [findK_cons] at hf
    by_cases he : y.1 = n
    · rw [if_pos he] at hf; cases hf
    · rw [if_neg he] at hf
      unfold insK
      by_cases hb : bytesBefore y.1 n = true
      · rw [placeK, if_pos hb, if_neg (by rw [before_asymm hb]; decide), ih hf]
        simp
      · rw [placeK, if_neg hb, if_pos (before_total he (by simpa using hb))]
        simp
theorem upd_place (hr : Rising l) {b : α} (hf : findK n l = some b) (a : α) : updK n a l = l.set (placeK n l) (n, a) := by
  induction l with
  | nil => cases hf
  | cons y r ih =>
    obtain ⟨h1, h2⟩ := List.pairwise_cons.1 hr
    rw [findK_cons] at hf
    unfold updK
    by_cases he : y.1 = n
    · rw [if_pos he, placeK, if_neg (by rw [he, bytes_irrefl]; decide)]
      rfl
    · rw [if_neg he] at hf ⊢
      have hb : bytesBefore y.1 n = true := h1 _ (findK_mem hf)
      rw [placeK, if_pos hb, ih h2 hf]
      rfl
theorem drop_place (hr : Rising l) {b : α} (hf : findK n l = some b) : dropK n l = l.take (placeK n l) ++ l.drop (placeK n l + 1) := by
  induction l with
  | nil => cases hf
  | cons y r ih =>
    obtain ⟨h1, h2⟩ := List.pairwise_cons.1 hr
    rw [findK_cons] at hf
    by_cases he : y.1 = n
    · rw [placeK, if_neg (by rw [he, bytes_irrefl]; decide)]
      have : dropK n (y :: r) = dropK n r := by simp [dropK, he]
      rw [this]
      simp only [List.take_zero, List.nil_append, List.drop_succ_cons, List.drop_zero]
      refine dropK_none (findK_none.2 (fun p hp e => ?_))
      have := h1 p hp
      rw [he, e, bytes_irrefl] at this
      cases this
    · rw [if_neg he] at hf
      have hb : bytesBefore y.1 n = true := h1 _ (findK_mem hf)
      have : dropK n (y :: r) = y :: dropK n r := by simp [dropK, he]
      rw [this, ih h2 hf, placeK, if_pos hb]
      simp
end

/-- What holds of the files of every box in memory. -/
structure FOK (l : List (Key × FileS)) : Prop where
  rising : Rising l
  dur : ∀ x ∈ l, x.2.dur ≤ x.2.bytes.length

/-- What a crash leaves, one file behind the other. -/
theorem ins_last {α : Type} {x : Key × α} {l : List (Key × α)} (h : ∀ y ∈ l, bytesBefore y.1 x.1 = true) : insK x l = l ++ [x] := by
  induction l with
  | nil => rfl
  | cons y r ih =>
    unfold insK
    rw [if_neg (by rw [before_asymm (h y (by simp))]; decide), ih (fun z hz => h z (by simp [hz]))]
    rfl
theorem crash_last {keep : List Int} {l : List (Key × FileS)} (hr : Rising l) {k : Nat} (hk : k < l.length) : ∀ y ∈ (crashL keep (l.take k)).1, bytesBefore y.1 l[k].1 = true := by
  intro y hy
  obtain ⟨j, hj, hjk, he⟩ := crashL_keys k (by omega) y hy
  have := (List.pairwise_iff_getElem.1 hr) j k hj hk hjk
  rwa [he] at this

end Go.Proofs.Ytnjphflaggefeaa

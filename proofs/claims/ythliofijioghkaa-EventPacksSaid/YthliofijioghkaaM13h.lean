/- Layer 13, plain facts: which bytes are a history's. -/
import Derived.Test.YthliofijioghkaaM13
namespace Go.Proofs.Ythliofijioghkaa
set_option linter.unusedVariables false

/-- Were so many texts events? -/
def okTs (R : Option (List UInt8)) : Nat → Bool
  | 0 => true
  | n + 1 => okTs R n && okE (textS (rdEvs R n).2).1
def okH (l : List UInt8) : Bool := okTs (intS 500 (some l)).2 (intS 500 (some l)).1 && (rdHist l).2 == some []
theorem rdEvs_len (R : Option (List UInt8)) : ∀ n, (rdEvs R n).1.length = n
  | 0 => rfl
  | n + 1 => by
    show ((rdEvs R n).1 ++ [_]).length = n + 1
    rw [List.length_append, rdEvs_len R n]
    rfl
theorem okE_nil : okE [] = false := by
  cases h : okE [] with
  | false => rfl
  | true =>
    obtain ⟨e, he, h2⟩ := (okE_iff _).1 h
    have := congrArg List.length h2
    unfold encEv headL at this
    simp only [List.length_append, List.length_nil] at this
    have := putL_pos e.id.toNat
    omega
theorem okE_is {l : List UInt8} (h : okE l = true) : evB (rdEv (some l)).1 = true ∧ encEv (rdEv (some l)).1 = l := by
  unfold okE at h
  simp only [Bool.and_eq_true, beq_iff_eq] at h
  exact ⟨h.1.1, h.2⟩
/-- What was read, backwards. -/
theorem ts_is {R : List UInt8} : ∀ (n : Nat), okTs (some R) n = true → (rdEvs (some R) n).1.all evB = true ∧ ∃ r, (rdEvs (some R) n).2 = some r ∧ R = encEvs (rdEvs (some R) n).1 ++ r ∨ (rdEvs (some R) n).2 = none
  | 0, _ => ⟨rfl, R, .inl ⟨rfl, rfl⟩⟩
  | n + 1, h => by
    unfold okTs at h
    rw [Bool.and_eq_true] at h
    obtain ⟨h1, r, h2⟩ := ts_is n h.1
    have hd := okE_is h.2
    have e : rdEvs (some R) (n + 1) = ((rdEvs (some R) n).1 ++ [(rdEv (some (textS (rdEvs (some R) n).2).1)).1], (textS (rdEvs (some R) n).2).2) := rfl
    rw [e]
    refine ⟨by rw [List.all_append, h1]; simp [hd.1], ?_⟩
    rcases h2 with ⟨h2, h3⟩ | h2
    · cases ht : (textS (some r)).2 with
      | none => exact ⟨[], .inr (by rw [h2, ht])⟩
      | some q =>
        have hx := text_inv (show textS (some r) = ((textS (some r)).1, some q) by rw [← ht])
        refine ⟨q, .inl ⟨by rw [h2, ht], ?_⟩⟩
        rw [h2] at hd ⊢
        unfold encEvs at h3 ⊢
        rw [List.flatMap_append, List.flatMap_cons, List.flatMap_nil, List.append_nil, hd.2, List.append_assoc]
        unfold textP
        rw [List.append_assoc, ← hx.2]
        exact h3
    · have := h.2
      rw [h2, text_none, okE_nil] at this
      cases this
theorem okH_is {l : List UInt8} (h : okH l = true) : histB (rdHist l).1 = true ∧ encHist (rdHist l).1 = l := by
  unfold okH at h
  rw [Bool.and_eq_true, beq_iff_eq] at h
  cases hi : (intS 500 (some l)).2 with
  | none =>
    have e : rdHist l = rdEvs none (intS 500 (some l)).1 := by show rdEvs (intS 500 (some l)).2 _ = _; rw [hi]
    have hz : ∀ n, (rdEvs none n).2 = none := fun n => by
      induction n with
      | zero => rfl
      | succ n ih => show (textS (rdEvs none n).2).2 = none; rw [ih]; rfl
    rw [e, hz] at h
    cases h.2
  | some R =>
    have hx := int_inv (show intS 500 (some l) = ((intS 500 (some l)).1, some R) by rw [← hi])
    have e : rdHist l = rdEvs (some R) (intS 500 (some l)).1 := by show rdEvs (intS 500 (some l)).2 _ = _; rw [hi]
    rw [hi] at h
    rw [e] at h ⊢
    obtain ⟨h1, r, h2⟩ := ts_is _ h.1
    rcases h2 with ⟨h2, h3⟩ | h2
    · rw [h.2] at h2
      injection h2 with h2
      subst h2
      have hl := rdEvs_len (some R) (intS 500 (some l)).1
      refine ⟨?_, ?_⟩
      · unfold histB
        rw [h1, hl]
        simp
        omega
      · unfold encHist
        rw [hl]
        rw [List.append_nil] at h3
        rw [← h3]
        exact hx.2.2.symm
    · rw [h2] at h
      cases h.2
theorem okH_hist {l : List EvS} (h : histB l = true) : okH (encHist l) = true := by
  have hr := rd_hist h
  unfold okH
  rw [hr]
  unfold histB at h
  simp only [Bool.and_eq_true, decide_eq_true_eq] at h
  have hn9 : ∀ r, intS 500 (some (putL l.length ++ r)) = (l.length, some r) := intS_lit (m := 500) h.1 (by decide)
  have e : intS 500 (some (encHist l)) = (l.length, some (encEvs l)) := hn9 _
  rw [e]
  simp only [beq_self_eq_true, Bool.and_true]
  have hall : ∀ k, k ≤ l.length → okTs (some (encEvs l)) k = true := fun k => by
    induction k with
    | zero => intro _; rfl
    | succ k ih =>
      intro hk
      unfold okTs
      rw [ih (by omega), Bool.true_and]
      have hre := rd_evs l h.2 [] k (by omega)
      rw [List.append_nil] at hre
      have hd : l.drop k = l[k] :: l.drop (k + 1) := List.drop_eq_getElem_cons (by omega)
      have hs : evB l[k] = true := List.all_eq_true.1 h.2 _ (List.getElem_mem _)
      have hn := encEv_len hs
      have e2 : encEvs (l[k] :: l.drop (k + 1)) ++ [] = textP (encEv l[k]) ++ (encEvs (l.drop (k + 1)) ++ []) := by unfold encEvs; rw [List.flatMap_cons, List.append_assoc]
      rw [hre, hd, e2, textP_read (by omega)]
      exact okE_ev hs
  exact hall _ (Nat.le_refl _)
theorem okH_iff (l : List UInt8) : okH l = true ↔ ∃ h, histB h = true ∧ encHist h = l :=
  ⟨fun h => ⟨_, okH_is h⟩, fun ⟨h, h1, h2⟩ => by rw [← h2]; exact okH_hist h1⟩
/-- How Unpack ends. -/
def HistEnd (l : List UInt8) (h : List EvS) (E : Nat) : Prop := (okH l = true ∧ h = (rdHist l).1 ∧ E = 0) ∨ (okH l = false ∧ h = [] ∧ E = 60)
end Go.Proofs.Ythliofijioghkaa

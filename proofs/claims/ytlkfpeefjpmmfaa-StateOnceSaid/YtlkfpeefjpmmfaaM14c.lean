/- Layer 14, plain facts: in a history no decision, try or timer has two ends, and behind an end there is nothing. -/
import Derived.Test.YtlkfpeefjpmmfaaJ17
import Derived.Test.YtlkfpeefjpmmfaaR14k
namespace Go.Proofs.Ytlkfpeefjpmmfaa
set_option linter.unusedVariables false

/-- What an event ends, as the law keeps it. -/
def endK (e : EvS) : Option (Int × Int × Int) :=
  if e.kind = 4 ∨ e.kind = 5 then some (1, e.ref, 0)
  else if e.kind = 7 ∨ e.kind = 8 ∨ e.kind = 9 then some (2, e.ref, e.tryN)
  else if e.kind = 11 ∨ e.kind = 3 then some (e.kind + 10, e.ref, 0)
  else none
theorem find_mem {α : Type} {l : List α} {p : α → Bool} {x : α} (h : l.find? p = some x) : x ∈ l ∧ p x = true := ⟨List.mem_of_find?_eq_some h, List.find?_some h⟩
theorem retr_mono (l : List EvS) (r : Int) {i j : Nat} (h : i ≤ j) : retrH (l.take i) r ≤ retrH (l.take j) r := by
  unfold retrH
  have : l.take i = (l.take j).take i := by rw [List.take_take, Nat.min_eq_left h]
  rw [this]
  exact List.Sublist.countP_le (List.take_sublist _ _)
theorem ended_take_hit {l : List EvS} {i j : Nat} (hi : i < j) (hj : j ≤ l.length) {r a b : Int} (hr : (l[i]'(by omega)).ref = r) (hk : (l[i]'(by omega)).kind = a ∨ (l[i]'(by omega)).kind = b) : endedH (l.take j) r a b = true := by
  have hl : (l.take j).length = j := by rw [List.length_take]; omega
  have hg : (l.take j)[i]'(by omega) = l[i]'(by omega) := List.getElem_take
  exact ended_hit (l := l.take j) (i := i) (by omega) (by rw [hg]; exact hr) (by rw [hg]; exact hk)
/-- What can come at a place of a history. -/
theorem OkH.at {l : List EvS} (h : OkH l) {j : Nat} (hj : j < l.length) (h0 : 0 < j) : statusH (l.take j) = 0 ∧ canS ⟨progH (l.take j), statusH (l.take j), (((l.take j).length + 1 : Nat) : Int), beganH (l.take j), askedH (l.take j), takenH (l.take j), freshH (l.take j), jobsH (l.take j), clksH (l.take j), decide (0 < lastH (l.take j) 13), decide (0 < lastH (l.take j) 14)⟩ l[j] = true ∧ evB l[j] = true := by
  have he := (h.part j).2 hj
  obtain ⟨h1, _, h3⟩ := err_zero he
  have hne : l.take j ≠ [] := fun e => by
    have := congrArg List.length e
    rw [List.length_take, Nat.min_eq_left (Nat.le_of_lt hj)] at this
    simp at this
    omega
  obtain ⟨h4, _, h6⟩ := h3 (fun e => hne ((state_next _).1 e))
  rw [state_cons hne] at h4 h6
  exact ⟨by simpa using h4, h6, h1⟩
theorem job_of {l : List EvS} {e : EvS} (hs : statusH l = 0) (hk : e.kind = 7 ∨ e.kind = 8 ∨ e.kind = 9) (h : triedS (progH l) (jobsH l) e = true) : endedH l e.ref 7 9 = false ∧ e.tryN = ((1 + retrH l e.ref : Nat) : Int) := by
  unfold triedS at h
  split at h
  · rename_i j hf
    obtain ⟨hm, hp⟩ := find_mem hf
    simp only [Bool.and_eq_true, decide_eq_true_eq] at hp
    unfold jobsH at hm
    rw [if_pos hs] at hm
    obtain ⟨i, hi, hja⟩ := jobs_ids hm
    have hid := jobAt_id hja
    rw [jobAt_val hi] at hja
    split at hja
    · rename_i hc
      injection hja with hja
      rw [← hp.1, hid]
      refine ⟨hc.2, ?_⟩
      rw [← hp.2, ← hja]
    · cases hja
  · cases h
theorem clk_of {l : List EvS} {e : EvS} (hs : statusH l = 0) (h : firedS (clksH l) e = true) : endedH l e.ref 11 11 = false := by
  unfold firedS at h
  split at h
  · rename_i c hf
    obtain ⟨hm, hp⟩ := find_mem hf
    simp only [decide_eq_true_eq] at hp
    unfold clksH at hm
    rw [if_pos hs] at hm
    obtain ⟨i, hi, hja⟩ := clks_ids hm
    have hid := clkAt_id hja
    rw [clkAt_val hi] at hja
    split at hja
    · rename_i hc
      rw [← hp, hid]
      exact hc.2
    · cases hja
  · cases h
/-- No two ends of one thing. -/
theorem OkH.once {l : List EvS} (h : OkH l) {i j : Nat} (hij : i < j) (hj : j < l.length) {k : Int × Int × Int} (hi : endK (l[i]'(by omega)) = some k) : endK l[j] ≠ some k := by
  intro hk
  obtain ⟨hs, hc, hv⟩ := h.at hj (by omega)
  have hok := (evB_iff _).1 hv
  have hR : ∀ {r a b : Int}, (l[i]'(by omega)).ref = r → ((l[i]'(by omega)).kind = a ∨ (l[i]'(by omega)).kind = b) → endedH (l.take j) r a b = true := fun hr hk => ended_take_hit hij (Nat.le_of_lt hj) hr hk
  have hT : 0 < i → i < l.length → ((l[i]'(by omega)).kind = 7 ∨ (l[i]'(by omega)).kind = 8 ∨ (l[i]'(by omega)).kind = 9) → (l[i]'(by omega)).tryN = ((1 + retrH (l.take i) (l[i]'(by omega)).ref : Nat) : Int) := fun h0 hil hkk => by
    obtain ⟨hs2, hc2, _⟩ := h.at (j := i) hil h0
    refine (job_of hs2 hkk ?_).2
    unfold canS at hc2
    rw [if_neg (by omega), if_neg (by omega), if_neg (by omega), if_neg (by omega), if_pos hkk] at hc2
    exact hc2
  have hI0 : endK (l[i]'(by omega)) ≠ none → 0 < i := fun hne => by
    rcases Nat.eq_zero_or_pos i with h0 | h0
    · subst h0
      exfalso
      obtain ⟨_, h2, _⟩ := err_zero ((h.part 0).2 (by omega))
      have h1 := (h2 rfl).1
      exact hne (by unfold endK; simp [h1])
    · exact h0
  have hi0 := hI0 (by rw [hi]; simp)
  have hrt := retr_take (l := l) (k := i) (by omega) (l[i]'(by omega)).ref
  have hrm := retr_mono l (l[i]'(by omega)).ref (i := i + 1) (j := j) (by omega)
  generalize hx : (l[i]'(by omega) : EvS) = x at *
  generalize hy : (l[j] : EvS) = y at *
  unfold endK at hi hk
  unfold canS at hc
  simp only at hc
  by_cases y4 : y.kind = 4 ∨ y.kind = 5
  · rw [if_pos y4] at hk
    rw [if_neg (by omega), if_neg (by omega), if_pos y4] at hc
    have hrp : 0 < y.ref := by
      have := hok.ref (by rcases y4 with h | h <;> rw [h] <;> rfl)
      omega
    have hc' : (takenH (l.take j) : Int) = y.ref := of_decide_eq_true hc
    have hv := taken_val hs (r := takenH (l.take j)) rfl (by omega)
    have hx4 : (x.kind = 4 ∨ x.kind = 5) ∧ x.ref = y.ref := by
      split at hi
      · rename_i hxx
        rw [← hk] at hi
        simp only [Option.some.injEq, Prod.mk.injEq, true_and, and_true] at hi
        exact ⟨hxx, hi⟩
      · split at hi
        · rw [← hk] at hi; simp at hi
        · split at hi
          · rename_i hxx
            rw [← hk] at hi
            simp only [Option.some.injEq, Prod.mk.injEq, and_true] at hi
            omega
          · cases hi
    have := hR (r := (lastH (l.take j) 3 : Int)) (a := 4) (b := 5) (by rw [hv.1]; omega) hx4.1
    rw [hv.2] at this
    cases this
  · rw [if_neg y4] at hk
    by_cases y7 : y.kind = 7 ∨ y.kind = 8 ∨ y.kind = 9
    · rw [if_pos y7] at hk
      rw [if_neg (by omega), if_neg (by omega), if_neg y4, if_neg (by omega), if_pos y7] at hc
      obtain ⟨hn, hty⟩ := job_of hs y7 hc
      have hx7 : (x.kind = 7 ∨ x.kind = 8 ∨ x.kind = 9) ∧ x.ref = y.ref ∧ x.tryN = y.tryN := by
        split at hi
        · rw [← hk] at hi; simp at hi
        · split at hi
          · rename_i hxx
            rw [← hk] at hi
            simp only [Option.some.injEq, Prod.mk.injEq, true_and] at hi
            exact ⟨hxx, hi⟩
          · split at hi
            · rename_i hxx
              rw [← hk] at hi
              simp only [Option.some.injEq, Prod.mk.injEq] at hi
              omega
            · cases hi
      obtain ⟨hxk, hxr, hxt⟩ := hx7
      by_cases x8 : x.kind = 8
      · have h1 := hT hi0 (by omega) hxk
        rw [if_pos ⟨x8, rfl⟩] at hrt
        rw [hxr] at h1 hrt hrm
        omega
      · have := hR (r := y.ref) (a := 7) (b := 9) hxr (by omega)
        rw [hn] at this
        cases this
    · rw [if_neg y7] at hk
      by_cases y11 : y.kind = 11 ∨ y.kind = 3
      · rw [if_pos y11] at hk
        have hx11 : x.kind = y.kind ∧ x.ref = y.ref := by
          split at hi
          · rw [← hk] at hi
            simp only [Option.some.injEq, Prod.mk.injEq, and_true] at hi
            omega
          · split at hi
            · rw [← hk] at hi
              simp only [Option.some.injEq, Prod.mk.injEq] at hi
              omega
            · split at hi
              · rw [← hk] at hi
                simp only [Option.some.injEq, Prod.mk.injEq, and_true] at hi
                omega
              · cases hi
        rcases y11 with y11 | y3
        · rw [if_neg (by omega), if_neg (by omega), if_neg y4, if_neg (by omega), if_neg y7, if_neg (by omega), if_pos y11] at hc
          have hn := clk_of hs hc
          have := hR (r := y.ref) (a := 11) (b := 11) hx11.2 (by omega)
          rw [hn] at this
          cases this
        · rw [if_neg (by omega), if_pos y3] at hc
          have hrp : 0 < y.ref := by
            have := hok.ref (by rw [y3]; rfl)
            omega
          have hc' : (askedH (l.take j) : Int) = y.ref := of_decide_eq_true hc
          have hv := asked_val hs (r := askedH (l.take j)) rfl (by omega)
          have := hR (r := (lastH (l.take j) 2 : Int)) (a := 3) (b := 3) (by rw [hv.1]; omega) (by omega)
          rw [hv.2] at this
          cases this
      · rw [if_neg y11] at hk
        cases hk
/-- Behind an end there is nothing. -/
theorem OkH.last {l : List EvS} (h : OkH l) {i : Nat} (hi : i + 1 < l.length) : (l[i]'(by omega)).kind < 15 := by
  have hs := (h.at (j := i + 1) hi (by omega)).1
  rw [List.take_succ_eq_append_getElem (by omega), status_snoc] at hs
  have hv := ((evB_iff _).1 (h.ev i (by omega)).2).kind
  unfold statusK at hs
  by_cases h1 : (l[i]'(by omega)).kind < 15
  · exact h1
  · exfalso
    have : (l[i]'(by omega)).kind = 15 ∨ (l[i]'(by omega)).kind = 16 ∨ (l[i]'(by omega)).kind = 17 ∨ (l[i]'(by omega)).kind = 18 := by omega
    rcases this with h | h | h | h <;> simp [h] at hs
end Go.Proofs.Ytlkfpeefjpmmfaa

/- Joined: M14b R14b. -/
import Derived.Test.YtlkfpeefjpmmfaaM14
import Derived.Test.YtlkfpeefjpmmfaaR14

namespace Go.Proofs.Ytlkfpeefjpmmfaa
set_option linter.unusedVariables false

section
variable {l : List EvS} {e : EvS}
theorem asked_val (hs : statusH l = 0) {r : Nat} (h : askedH l = r) (hr : 0 < r) : lastH l 2 = r ∧ endedH l (lastH l 2) 3 3 = false := by
  unfold askedH at h
  rw [hs] at h
  cases hc : endedH l (lastH l 2) 3 3 with
  | true => rw [hc] at h; simp at h; omega
  | false => rw [hc] at h; simp at h; exact ⟨h, rfl⟩
theorem taken_val (hs : statusH l = 0) {r : Nat} (h : takenH l = r) (hr : 0 < r) : lastH l 3 = r ∧ endedH l (lastH l 3) 4 5 = false := by
  unfold takenH at h
  rw [hs] at h
  cases hc : endedH l (lastH l 3) 4 5 with
  | true => rw [hc] at h; simp at h; omega
  | false => rw [hc] at h; simp at h; exact ⟨h, rfl⟩
theorem asked_snoc (h : OkH l) (hs : statusH l = 0) (h3 : e.kind = 3 → e.ref = (askedH l : Int) ∧ 0 < e.ref) :
    askedH (l ++ [e]) = if statusK e.kind ≠ 0 then 0 else if e.kind = 2 then l.length + 1 else if e.kind = 3 then 0 else askedH l := by
  have h0 := h.not_ended (r := ((l.length + 1 : Nat) : Int)) 3 3 (by omega)
  by_cases hk2 : e.kind = 2
  · unfold askedH
    rw [ended_snoc, last_snoc, status_snoc, if_pos hk2, h0]
    simp [hk2, statusK]
  · by_cases hk3 : e.kind = 3
    · obtain ⟨a1, a2⟩ := h3 hk3
      have hv := asked_val hs (r := askedH l) rfl (by omega)
      unfold askedH
      rw [ended_snoc, last_snoc, status_snoc, if_neg hk2]
      have e1 : e.ref = (lastH l 2 : Int) := by rw [hv.1]; exact a1
      simp [hk3, statusK, e1]
    · unfold askedH
      rw [ended_snoc, last_snoc, status_snoc, if_neg hk2, hs]
      simp only [hk2, hk3, decide_false, Bool.or_false, Bool.and_false, if_false, decide_true, Bool.not_true]
      by_cases hk : statusK e.kind = 0 <;> simp [hk]
theorem taken_snoc (h : OkH l) (hs : statusH l = 0) (h4 : e.kind = 4 ∨ e.kind = 5 → e.ref = (takenH l : Int) ∧ 0 < e.ref) :
    takenH (l ++ [e]) = if statusK e.kind ≠ 0 then 0 else if e.kind = 3 then l.length + 1 else if e.kind = 4 ∨ e.kind = 5 then 0 else takenH l := by
  have h0 := h.not_ended (r := ((l.length + 1 : Nat) : Int)) 4 5 (by omega)
  by_cases hk3 : e.kind = 3
  · unfold takenH
    rw [ended_snoc, last_snoc, status_snoc, if_pos hk3, h0]
    simp [hk3, statusK]
  · by_cases hk4 : e.kind = 4 ∨ e.kind = 5
    · obtain ⟨a1, a2⟩ := h4 hk4
      have hv := taken_val hs (r := takenH l) rfl (by omega)
      unfold takenH
      rw [ended_snoc, last_snoc, status_snoc, if_neg hk3]
      have e1 : e.ref = (lastH l 3 : Int) := by rw [hv.1]; exact a1
      have hd : (decide (e.kind = 4) || decide (e.kind = 5)) = true := by rcases hk4 with h | h <;> simp [h]
      have hst : statusK e.kind = 0 := by rcases hk4 with h | h <;> rw [h] <;> rfl
      rw [hd, hst, if_neg hk3, if_pos hk4]
      simp [e1]
    · unfold takenH
      rw [ended_snoc, last_snoc, status_snoc, if_neg hk3, hs]
      have hd : (decide (e.kind = 4) || decide (e.kind = 5)) = false := by
        cases hc : (decide (e.kind = 4) || decide (e.kind = 5)) with
        | false => rfl
        | true => simp only [Bool.or_eq_true, decide_eq_true_eq] at hc; exact (hk4 hc).elim
      rw [hd]
      simp only [hk3, hk4, Bool.or_false, Bool.and_false, if_false, decide_true, Bool.not_true]
      by_cases hk : statusK e.kind = 0 <;> simp [hk]
theorem fresh_snoc (hs : statusH l = 0) :
    freshH (l ++ [e]) = if statusK e.kind ≠ 0 then false else if e.kind = 3 then false else freshH l || freshK e.kind := by
  have hle := last_le l 3
  unfold freshH
  rw [status_snoc, last_snoc, hs]
  by_cases hk3 : e.kind = 3
  · rw [if_pos hk3, List.drop_eq_nil_of_le (by simp)]
    simp [hk3]
  · rw [if_neg hk3, List.drop_append_of_le_length hle, List.any_append]
    by_cases hk : statusK e.kind = 0 <;> simp [hk, hk3]

theorem fm_congr {α β : Type} {f g : α → Option β} {r : List α} (h : ∀ i ∈ r, f i = g i) : r.filterMap f = r.filterMap g := by
  induction r with
  | nil => rfl
  | cons a r ih =>
    rw [List.filterMap_cons, List.filterMap_cons, h a (by simp), ih (fun i hi => h i (by simp [hi]))]
theorem fm_filter {α β : Type} (f : α → Option β) (p : β → Bool) (r : List α) : r.filterMap (fun i => (f i).filter p) = (r.filterMap f).filter p := by
  induction r with
  | nil => rfl
  | cons a r ih =>
    rw [List.filterMap_cons, List.filterMap_cons]
    cases hf : f a with
    | none => simpa [hf] using ih
    | some b =>
      cases hp : p b with
      | true =>
        have e1 : Option.filter p (some b) = some b := by simp [Option.filter, hp]
        simp only [e1, List.filter_cons, hp, if_true]
        rw [ih]
      | false =>
        have e1 : Option.filter p (some b) = none := by simp [Option.filter, hp]
        simp only [e1, List.filter_cons, hp, Bool.false_eq_true, if_false]
        exact ih
theorem fm_map {α β : Type} (f : α → Option β) (g : β → β) (r : List α) : r.filterMap (fun i => (f i).map g) = (r.filterMap f).map g := by
  induction r with
  | nil => rfl
  | cons a r ih =>
    rw [List.filterMap_cons, List.filterMap_cons]
    cases hf : f a with
    | none => simpa [hf] using ih
    | some b => simp [ih]
theorem range_fm {β : Type} (f : Nat → Option β) (n : Nat) : (List.range (n + 1)).filterMap f = (List.range n).filterMap f ++ (f n).toList := by
  rw [List.range_succ, List.filterMap_append]
  congr 1
theorem at_old (l : List EvS) (e : EvS) {i : Nat} (h : i < l.length) : (l ++ [e])[i]? = l[i]? := List.getElem?_append_left h
theorem at_new (l : List EvS) (e : EvS) : (l ++ [e])[l.length]? = some e := by rw [List.getElem?_append_right (Nat.le_refl _)]; simp
theorem jobAt_old (l : List EvS) (e : EvS) {i : Nat} (h : i < l.length) : jobAt (l ++ [e]) i =
    if (e.kind = 7 ∨ e.kind = 9) ∧ e.ref = ((i + 1 : Nat) : Int) then none else if e.kind = 8 ∧ e.ref = ((i + 1 : Nat) : Int) then (jobAt l i).map (fun j => { j with tryN := j.tryN + 1 }) else jobAt l i := by
  unfold jobAt
  rw [at_old l e h, List.getElem?_eq_getElem h]
  simp only
  rw [ended_snoc, retr_snoc]
  by_cases h1 : (e.kind = 7 ∨ e.kind = 9) ∧ e.ref = ((i + 1 : Nat) : Int)
  · rw [if_pos h1, if_neg]
    rintro ⟨_, h2⟩
    rcases h1 with ⟨h1 | h1, h3⟩ <;> simp [h1, h3] at h2
  · have hf : (decide (e.ref = ((i + 1 : Nat) : Int)) && (decide (e.kind = 7) || decide (e.kind = 9))) = false := by
      cases hc : (decide (e.ref = ((i + 1 : Nat) : Int)) && (decide (e.kind = 7) || decide (e.kind = 9))) with
      | false => rfl
      | true =>
        simp only [Bool.and_eq_true, Bool.or_eq_true, decide_eq_true_eq] at hc
        exact (h1 ⟨hc.2, hc.1⟩).elim
    rw [if_neg h1, hf, Bool.or_false]
    by_cases h2 : e.kind = 8 ∧ e.ref = ((i + 1 : Nat) : Int)
    · rw [if_pos h2, if_pos h2]
      by_cases h3 : l[i].kind = 6 ∧ endedH l ((i + 1 : Nat) : Int) 7 9 = false
      · rw [if_pos h3, if_pos h3]
        simp only [Option.map_some, Option.some.injEq, JobS.mk.injEq, true_and]
        omega
      · rw [if_neg h3, if_neg h3]
        rfl
    · rw [if_neg h2, if_neg h2]
      rfl
theorem jobAt_id {i : Nat} {j : JobS} (h : jobAt l i = some j) : j.id = ((i + 1 : Nat) : Int) := by
  unfold jobAt at h
  split at h
  · split at h
    · injection h with h
      rw [← h]
    · cases h
  · cases h
theorem jobs_ids {n : Nat} {j : JobS} (h : j ∈ jobsL l n) : ∃ i, i < n ∧ jobAt l i = some j := by
  unfold jobsL at h
  obtain ⟨i, hi, hj⟩ := List.mem_filterMap.1 h
  exact ⟨i, List.mem_range.1 hi, hj⟩
theorem jobs_snoc (h : OkH l) : jobsL (l ++ [e]) (l.length + 1) =
    (if e.kind = 7 ∨ e.kind = 9 then (jobsL l l.length).filter (fun j => decide (j.id ≠ e.ref)) else if e.kind = 8 then (jobsL l l.length).map (againS e.ref) else jobsL l l.length) ++
      if e.kind = 6 then [⟨((l.length + 1 : Nat) : Int), e.step, e.undo, 1⟩] else [] := by
  have h0 := h.not_ended (r := ((l.length + 1 : Nat) : Int)) 7 9 (by omega)
  have h1 := h.not_retr (r := ((l.length + 1 : Nat) : Int)) (by omega)
  unfold jobsL
  rw [range_fm]
  congr 1
  · by_cases hk : e.kind = 7 ∨ e.kind = 9
    · rw [if_pos hk, ← fm_filter]
      refine fm_congr fun i hi => ?_
      rw [jobAt_old l e (List.mem_range.1 hi)]
      have h8 : ¬ e.kind = 8 := by omega
      simp only [hk, true_and, h8, false_and, if_false]
      cases hj : jobAt l i with
      | none => simp
      | some j =>
        have := jobAt_id hj
        by_cases hr : e.ref = ((i + 1 : Nat) : Int)
        · rw [if_pos hr]; simp [Option.filter, this, hr]
        · rw [if_neg hr]; simp only [Option.filter, this]; rw [if_pos (by simp; omega)]
    · rw [if_neg hk]
      by_cases h8 : e.kind = 8
      · rw [if_pos h8, ← fm_map]
        refine fm_congr fun i hi => ?_
        rw [jobAt_old l e (List.mem_range.1 hi)]
        simp only [ h8, true_and]
        cases hj : jobAt l i with
        | none => simp
        | some j =>
          have := jobAt_id hj
          unfold againS
          by_cases hr : e.ref = ((i + 1 : Nat) : Int)
          · rw [if_pos hr]; simp [this, hr]
          · rw [if_neg hr]; simp only [Option.map_some]; rw [if_neg (show ¬ j.id = e.ref by omega)]; simp
      · rw [if_neg h8]
        refine fm_congr fun i hi => ?_
        rw [jobAt_old l e (List.mem_range.1 hi)]
        simp only [hk, h8, false_and, if_false]
  · unfold jobAt
    rw [at_new]
    simp only
    rw [ended_snoc, retr_snoc, h0, h1]
    by_cases h6 : e.kind = 6
    · rw [if_pos h6]
      simp [h6]
    · rw [if_neg h6, if_neg (fun h => h6 h.1)]
      rfl
theorem clkAt_old (hl : l ≠ []) (e : EvS) {i : Nat} (h : i < l.length) : clkAt (l ++ [e]) i = if e.kind = 11 ∧ e.ref = ((i + 1 : Nat) : Int) then none else clkAt l i := by
  unfold clkAt
  rw [at_old l e h, List.getElem?_eq_getElem h, prog_snoc hl]
  simp only
  rw [ended_snoc]
  by_cases h1 : e.kind = 11 ∧ e.ref = ((i + 1 : Nat) : Int)
  · rw [if_pos h1, if_neg]
    rintro ⟨_, h2⟩
    simp [h1.1, h1.2] at h2
  · have hf : (decide (e.ref = ((i + 1 : Nat) : Int)) && (decide (e.kind = 11) || decide (e.kind = 11))) = false := by
      cases hc : (decide (e.ref = ((i + 1 : Nat) : Int)) && (decide (e.kind = 11) || decide (e.kind = 11))) with
      | false => rfl
      | true =>
        simp only [Bool.and_eq_true, Bool.or_eq_true, decide_eq_true_eq, or_self] at hc
        exact (h1 ⟨hc.2, hc.1⟩).elim
    rw [if_neg h1, hf, Bool.or_false]
theorem clkAt_id {i : Nat} {c : ClkS} (h : clkAt l i = some c) : c.id = ((i + 1 : Nat) : Int) := by
  unfold clkAt at h
  split at h
  · split at h
    · injection h with h
      rw [← h]
    · cases h
  · cases h
theorem clks_ids {n : Nat} {c : ClkS} (h : c ∈ clksL l n) : ∃ i, i < n ∧ clkAt l i = some c := by
  unfold clksL at h
  obtain ⟨i, hi, hj⟩ := List.mem_filterMap.1 h
  exact ⟨i, List.mem_range.1 hi, hj⟩
theorem clks_snoc (h : OkH l) (hl : l ≠ []) : clksL (l ++ [e]) (l.length + 1) =
    (if e.kind = 11 then (clksL l l.length).filter (fun c => decide (c.id ≠ e.ref)) else clksL l l.length) ++
      if e.kind = 10 then [⟨((l.length + 1 : Nat) : Int), e.step, e.tick + (stepAt (progH l) e.step).wait⟩] else [] := by
  have h0 := h.not_ended (r := ((l.length + 1 : Nat) : Int)) 11 11 (by omega)
  unfold clksL
  rw [range_fm]
  congr 1
  · by_cases hk : e.kind = 11
    · rw [if_pos hk, ← fm_filter]
      refine fm_congr fun i hi => ?_
      rw [clkAt_old hl e (List.mem_range.1 hi)]
      simp only [hk, true_and]
      cases hj : clkAt l i with
      | none => simp
      | some c =>
        have := clkAt_id hj
        by_cases hr : e.ref = ((i + 1 : Nat) : Int)
        · rw [if_pos hr]; simp [Option.filter, this, hr]
        · rw [if_neg hr]; simp only [Option.filter, this]; rw [if_pos (by simp; omega)]
    · rw [if_neg hk]
      refine fm_congr fun i hi => ?_
      rw [clkAt_old hl e (List.mem_range.1 hi)]
      simp only [hk, false_and, if_false]
  · unfold clkAt
    rw [at_new]
    simp only
    rw [ended_snoc, h0, prog_snoc hl]
    by_cases h10 : e.kind = 10
    · rw [if_pos h10]
      simp [h10]
    · rw [if_neg h10, if_neg (fun h => h10 h.1)]
      rfl
end

/-- One event more: what the whole history says is what the state becomes. -/
theorem state_snoc {l : List EvS} {e : EvS} (h : OkH l) (he : errS (stateH l) e = 0) : stateH (l ++ [e]) = aftS (stateH l) e := by
  obtain ⟨hv, hz, hn⟩ := err_zero he
  have hok := (evB_iff e).1 hv
  by_cases hl : l = []
  · subst hl
    obtain ⟨hk, hi⟩ := hz rfl
    rw [state_cons (by simp)]
    unfold aftS
    rw [if_pos (show (stateH []).next = 0 from rfl)]
    have hr : e.ref = 0 := hok.ref0 (by rw [hk]; rfl)
    have l2 : lastH [e] 2 = 0 := by have := last_snoc [] e 2; rw [List.nil_append] at this; rw [this, if_neg (by omega)]; rfl
    have l3 : lastH [e] 3 = 0 := by have := last_snoc [] e 3; rw [List.nil_append] at this; rw [this, if_neg (by omega)]; rfl
    have l13 : lastH [e] 13 = 0 := by have := last_snoc [] e 13; rw [List.nil_append] at this; rw [this, if_neg (by omega)]; rfl
    have l14 : lastH [e] 14 = 0 := by have := last_snoc [] e 14; rw [List.nil_append] at this; rw [this, if_neg (by omega)]; rfl
    have hst : statusH [e] = 0 := by show statusK e.kind = 0; rw [hk]; rfl
    simp only [List.nil_append]
    have hj : jobsH [e] = [] := by
      unfold jobsH jobsL jobAt
      rw [if_pos hst]
      simp [hk]
    have hc : clksH [e] = [] := by
      unfold clksH clksL clkAt
      rw [if_pos hst]
      simp [hk]
    have ha : askedH [e] = 0 := by unfold askedH; rw [l2]; split <;> rfl
    have ht : takenH [e] = 0 := by unfold takenH; rw [l3]; split <;> rfl
    have hf : freshH [e] = true := by unfold freshH; rw [hst, l3]; simp [hk, freshK]
    simp only [hst, ha, ht, hf, hj, hc, l13, l14]
    rfl
  · have hnx : (stateH l).next ≠ 0 := fun e => hl ((state_next l).1 e)
    obtain ⟨hs, hid, hcan⟩ := hn hnx
    have hk1 := can_one hcan
    rw [state_cons hl] at hs hid hcan
    simp only at hs hid
    have hst : statusH l = 0 := by omega
    have hkk : e.kind = 2 ∨ e.kind = 3 ∨ e.kind = 4 ∨ e.kind = 5 ∨ e.kind = 6 ∨ e.kind = 7 ∨ e.kind = 8 ∨ e.kind = 9 ∨ e.kind = 10 ∨ e.kind = 11 ∨ e.kind = 12 ∨ e.kind = 13 ∨ e.kind = 14 ∨ e.kind = 15 ∨ e.kind = 16 ∨ e.kind = 17 ∨ e.kind = 18 := by
      have := hok.kind; omega
    have hrp : (shapeL e.kind).contains 114 = true → 0 < e.ref := fun h => by have := hok.ref h; omega
    have a3 : e.kind = 3 → e.ref = (askedH l : Int) ∧ 0 < e.ref := fun hk => by
      have : canS _ e = true := hcan
      unfold canS at this
      simp [hk] at this
      exact ⟨this.symm, hrp (by rw [hk]; rfl)⟩
    have a4 : e.kind = 4 ∨ e.kind = 5 → e.ref = (takenH l : Int) ∧ 0 < e.ref := fun hk => by
      have : canS _ e = true := hcan
      unfold canS at this
      rcases hk with hk | hk <;> simp [hk] at this <;> exact ⟨this.symm, hrp (by rw [hk]; rfl)⟩
    have hA := asked_snoc h hst a3
    have hT := taken_snoc h hst a4
    have hF := fresh_snoc (e := e) hst
    have hJ := jobs_snoc (e := e) h
    have hC := clks_snoc (e := e) h hl
    have hJ0 : jobsH l = jobsL l l.length := by unfold jobsH; rw [if_pos hst]
    have hC0 : clksH l = clksL l l.length := by unfold clksH; rw [if_pos hst]
    rw [← hJ0] at hJ
    rw [← hC0] at hC
    have hJ1 : jobsH (l ++ [e]) = if statusK e.kind = 0 then jobsL (l ++ [e]) (l.length + 1) else [] := by
      unfold jobsH
      rw [status_snoc, List.length_append, List.length_singleton]
    have hC1 : clksH (l ++ [e]) = if statusK e.kind = 0 then clksL (l ++ [e]) (l.length + 1) else [] := by
      unfold clksH
      rw [status_snoc, List.length_append, List.length_singleton]
    rw [hJ] at hJ1
    rw [hC] at hC1
    rw [state_cons (by simp), state_cons hl, prog_snoc hl, began_snoc hl, status_snoc, hA, hT, hF, hJ1, hC1, last_snoc, last_snoc]
    unfold aftS
    simp only
    rw [if_neg (show ¬ (((l.length + 1 : Nat) : Int)) = 0 by omega), List.length_append, List.length_singleton, hst]
    generalize progH l = P at *
    generalize askedH l = A at *
    generalize takenH l = T at *
    generalize freshH l = F at *
    generalize jobsH l = J at *
    generalize clksH l = C at *
    generalize beganH l = B at *
    generalize lastH l 13 = L13 at *
    generalize lastH l 14 = L14 at *
    generalize l.length = N at *
    clear hA hT hF hJ hC hJ0 hC0 hJ1 hC1 a3 a4 hrp hcan hnx hn hz he h hok hv hst hs hk1
    rcases hkk with hk | hk | hk | hk | hk | hk | hk | hk | hk | hk | hk | hk | hk | hk | hk | hk | hk <;> simp [hk, statusK, freshK, hid]
end Go.Proofs.Ytlkfpeefjpmmfaa

namespace Go.Proofs.Ytlkfpeefjpmmfaa
open Go.RowKit
set_option linter.unusedVariables false

set_option maxHeartbeats 1000000 in
set_option maxRecDepth 100000 in
theorem rasked_any {w : World} {v : Value} {l : List EvS} (h : ReadE w v l) :
    Calls Try.prog 24 #[v] w fun e w' => e = .returned (.int .i64 (askedH l : Nat)) ∧ w' = w := by
  have HL := Lib.hid (rlast_any h 2)
  have HE := Lib.hid (rended_any h ((lastH l 2 : Nat) : Int) 3 3)
  have HS := Lib.hid (rstatus_any h)
  have HF : Hid (askedH l = if endedH l (lastH l 2) 3 3 || !decide (statusH l = 0) then 0 else lastH l 2) := rfl
  generalize askedH l = A at *
  generalize lastH l 2 = N at *
  generalize endedH l (N : Int) 3 3 = E at *
  generalize statusH l = S at *
  clear h
  go_enter Try.func24, Try.ntmps24
  go_wp2_with fail
  refine HL.out.mono ?_
  rintro e w1 ⟨rfl, rfl⟩
  go_wp2_with fail
  refine HE.out.mono ?_
  rintro e w2 ⟨rfl, rfl⟩
  cases E with
  | true =>
    have HF2 : Hid (A = 0) := HF.out
    go_wp2
    go_ret
    exact ⟨by rw [HF2.out]; rfl, rfl⟩
  | false =>
    go_wp2_with fail
    refine HS.out.mono ?_
    rintro e w3 ⟨rfl, rfl⟩
    by_cases hs : S = 0
    · subst hs
      have HF2 : Hid (A = N) := HF.out
      go_wp2
      go_ret
      exact ⟨by rw [HF2.out]; rfl, rfl⟩
    · have HF2 : Hid (A = 0) := by show _ = _; rw [HF.out]; simp [hs]
      have g1 : ((S : Int) != 0) = true := by rw [bne_iff_ne]; omega
      clear hs
      go_wp2
      go_ret
      exact ⟨by rw [HF2.out]; rfl, rfl⟩

set_option maxHeartbeats 1000000 in
set_option maxRecDepth 100000 in
theorem rtaken_any {w : World} {v : Value} {l : List EvS} (h : ReadE w v l) :
    Calls Try.prog 25 #[v] w fun e w' => e = .returned (.int .i64 (takenH l : Nat)) ∧ w' = w := by
  have HL := Lib.hid (rlast_any h 3)
  have HE := Lib.hid (rended_any h ((lastH l 3 : Nat) : Int) 4 5)
  have HS := Lib.hid (rstatus_any h)
  have HF : Hid (takenH l = if endedH l (lastH l 3) 4 5 || !decide (statusH l = 0) then 0 else lastH l 3) := rfl
  generalize takenH l = A at *
  generalize lastH l 3 = N at *
  generalize endedH l (N : Int) 4 5 = E at *
  generalize statusH l = S at *
  clear h
  go_enter Try.func25, Try.ntmps25
  go_wp2_with fail
  refine HL.out.mono ?_
  rintro e w1 ⟨rfl, rfl⟩
  go_wp2_with fail
  refine HE.out.mono ?_
  rintro e w2 ⟨rfl, rfl⟩
  cases E with
  | true =>
    have HF2 : Hid (A = 0) := HF.out
    go_wp2
    go_ret
    exact ⟨by rw [HF2.out]; rfl, rfl⟩
  | false =>
    go_wp2_with fail
    refine HS.out.mono ?_
    rintro e w3 ⟨rfl, rfl⟩
    by_cases hs : S = 0
    · subst hs
      have HF2 : Hid (A = N) := HF.out
      go_wp2
      go_ret
      exact ⟨by rw [HF2.out]; rfl, rfl⟩
    · have HF2 : Hid (A = 0) := by show _ = _; rw [HF.out]; simp [hs]
      have g1 : ((S : Int) != 0) = true := by rw [bne_iff_ne]; omega
      clear hs
      go_wp2
      go_ret
      exact ⟨by rw [HF2.out]; rfl, rfl⟩

/-- Has something happened from event i up to event k? -/
def freshTo (l : List EvS) (i k : Nat) : Bool := ((l.take k).drop i).any fun e => freshK e.kind
theorem freshTo_next {l : List EvS} {i k : Nat} (hi : i ≤ k) (hk : k < l.length) : freshTo l i (k + 1) = (freshTo l i k || freshK l[k].kind) := by
  unfold freshTo
  rw [List.take_succ_eq_append_getElem hk, List.drop_append_of_le_length (by rw [List.length_take]; omega), List.any_append]
  simp
theorem freshTo_self (l : List EvS) (i : Nat) : freshTo l i i = false := by
  unfold freshTo
  rw [List.drop_eq_nil_of_le (by rw [List.length_take]; omega)]
  rfl
theorem fresh_hit {l : List EvS} {i k : Nat} (hi : i ≤ k) (hk : k < l.length) (hf : freshK l[k].kind = true) : (l.drop i).any (fun e => freshK e.kind) = true := by
  rw [List.any_eq_true]
  refine ⟨l[k], ?_, hf⟩
  rw [List.mem_iff_getElem]
  exact ⟨k - i, by rw [List.length_drop]; omega, by rw [List.getElem_drop]; congr 1; omega⟩
theorem freshK_form (k : Int) : freshK k = ((k == 1) || (k == 5) || (k == 7) || (k == 9) || (k == 11) || (k == 12) || (k == 13) || (k == 14)) := rfl

set_option maxHeartbeats 2000000 in
set_option maxRecDepth 100000 in
theorem rfresh_any {w : World} {v : Value} {l : List EvS} (h : ReadE w v l) :
    Calls Try.prog 26 #[v] w fun e w' => e = .returned (.bool (freshH l)) ∧ w' = w := by
  have HL := Lib.hid (rlast_any h 3)
  have HS := Lib.hid (rstatus_any h)
  have HLE := Lib.hid (last_le l 3)
  have HF : Hid (freshH l = (decide (statusH l = 0) && (l.drop (lastH l 3)).any fun e => freshK e.kind)) := rfl
  obtain ⟨va, vc, rfl⟩ := h.slice
  have hml : l.length ≤ 9223372036854775807 := by have := h.1; unfold maxLen at this; omega
  have H := Lib.hid h
  clear h
  generalize freshH l = FR at *
  generalize lastH l 3 = N at *
  generalize statusH l = S at *
  go_enter Try.func26, Try.ntmps26
  go_wp2_with fail
  refine HS.out.mono ?_
  rintro e w3 ⟨rfl, rfl⟩
  by_cases hs : S = 0
  · subst hs
    go_wp2_with fail
    refine HL.out.mono ?_
    rintro e w1 ⟨rfl, rfl⟩
    go_wp2
    go_loop [3] (fun iv => ∃ i : Nat, N ≤ i ∧ i ≤ l.length ∧ iv = .int .i64 (i : Int) ∧ Hid (freshTo l N i = false)) (fun iv => l.length - (intOf iv).toNat)
    case atStart => exact ⟨N, Nat.le_refl _, HLE.out, rfl, freshTo_self l N⟩
    case round =>
      obtain ⟨i, hni, hi, rfl, HA⟩ := hrel
      by_cases hlt : i < l.length
      · obtain ⟨b', o, rfl, q0, q1, q2, q3, q4, q5, q6, q7, -⟩ := H.out.at hlt
        have HT := Lib.hid (freshTo_next hni hlt)
        have HI := Lib.hid (fresh_hit hni hlt)
        have hmes : l.length - (intOf (.int .i64 ((i : Int) + 1))).toNat < l.length - (intOf (.int .i64 (i : Int))).toNat := by simp [intOf]; omega
        generalize l[i] = x at *
        have hfk := freshK_form x.kind
        cases hf : freshK x.kind with
        | true =>
          have HF2 : Hid (FR = true) := by show _ = _; rw [HF.out, HI.out hf]; rfl
          have hk : x.kind = 1 ∨ x.kind = 5 ∨ x.kind = 7 ∨ x.kind = 9 ∨ x.kind = 11 ∨ x.kind = 12 ∨ x.kind = 13 ∨ x.kind = 14 := by
            unfold freshK at hf
            simp only [Bool.or_eq_true, decide_eq_true_eq] at hf
            omega
          clear hf hfk HT HI HF
          obtain ⟨id, kind, tick, ref, step, tryN, undo, data⟩ := x
          simp only at hk q0 q1 q2 q3 q4 q5 q6 q7
          rcases hk with rfl | rfl | rfl | rfl | rfl | rfl | rfl | rfl
          all_goals go_wp2
          all_goals go_ret
          all_goals exact ⟨by rw [HF2.out]; rfl, rfl⟩
        | false =>
          have HA2 : Hid (freshTo l N (i + 1) = false) := by show _ = _; rw [HT.out, HA.out, hf]; rfl
          rw [hf] at hfk
          simp only [Bool.false_eq, Bool.or_eq_false_iff] at hfk
          obtain ⟨⟨⟨⟨⟨⟨⟨f1, f2⟩, f3⟩, f4⟩, f5⟩, f6⟩, f7⟩, f8⟩ := hfk
          clear hf
          go_wp2
          go_round
          case rel => exact ⟨i + 1, by omega, by omega, by go_num, HA2.out⟩
          case measure => exact hmes
      · obtain rfl : i = l.length := by omega
        have HF2 : Hid (FR = false) := by
          show _ = _
          have := HA.out
          unfold freshTo at this
          rw [List.take_length] at this
          rw [HF.out, this]
          rfl
        go_wp2
        go_ret
        exact ⟨by rw [HF2.out]; rfl, rfl⟩
  · have HF2 : Hid (FR = false) := by show _ = _; rw [HF.out]; simp [hs]
    have g1 : ((S : Int) != 0) = true := by rw [bne_iff_ne]; omega
    clear hs
    go_wp2
    go_ret
    exact ⟨by rw [HF2.out]; rfl, rfl⟩
end Go.Proofs.Ytlkfpeefjpmmfaa

/- Joined: M14p I24. -/
import Derived.Test.YtlkfpeefjpmmfaaR14e
import Derived.Test.YtlkfpeefjpmmfaaJ18

namespace Go.Proofs.Ytlkfpeefjpmmfaa
set_option linter.unusedVariables false

def StepS.zero : StepS := ⟨0, ⟨#[]⟩, ⟨#[]⟩, 0, 0, 0⟩
def stepG (p : ProgS) (i : Int) : StepS := if 0 ≤ i then p.steps.getD i.toNat StepS.zero else StepS.zero
def triesG (p : ProgS) (j : JobS) : Int := if (stepG p j.step).kind = 1 then (if j.undo then (stepG p j.step).undoTries else (stepG p j.step).tries) else 0
def isT (e : EvS) (j : JobS) : Bool := decide (j.id = e.ref) && decide (j.tryN = e.tryN)
def isF (e : EvS) (c : ClkS) : Bool := decide (c.id = e.ref) && decide (c.tick ≤ e.tick)
/-- What is known of a state that a history comes to. -/
structure GoodS (s : StS) : Prop where
  jd : s.jobs.Pairwise fun a b => a.id ≠ b.id
  cd : s.clocks.Pairwise fun a b => a.id ≠ b.id
  jl : s.jobs.length ≤ 500
  cl : s.clocks.length ≤ 500
  jt : ∀ j ∈ s.jobs, 0 ≤ j.tryN ∧ j.tryN ≤ 501
  pg : progB s.prog = true
  bg : 0 ≤ s.began ∧ s.began ≤ 1099511627776

theorem stepG_in {p : ProgS} {i : Int} {n : Nat} (hi : i = (n : Int)) (h : n < p.steps.length) : stepG p i = p.steps[n] := by
  subst hi
  unfold stepG
  rw [if_pos (by omega), Int.toNat_natCast, List.getD_eq_getElem?_getD, List.getElem?_eq_getElem h]
  rfl
theorem stepG_out {p : ProgS} {i : Int} (h : i < 0 ∨ (p.steps.length : Int) ≤ i) : stepG p i = StepS.zero := by
  unfold stepG
  by_cases h0 : 0 ≤ i
  · rw [if_pos h0, List.getD_eq_getElem?_getD, List.getElem?_eq_none (by omega)]
    rfl
  · rw [if_neg h0]
theorem stepG_is (p : ProgS) (i k : Int) (hk : k ≠ 0) : stepIs p i k = decide ((stepG p i).kind = k) := by
  by_cases h : 0 ≤ i ∧ i < (p.steps.length : Int)
  · have hn : i = (i.toNat : Int) := by omega
    have hl : i.toNat < p.steps.length := by omega
    rw [stepIs_at hn hl, stepG_in hn hl]
  · have ho : i < 0 ∨ (p.steps.length : Int) ≤ i := by omega
    rw [stepIs_not ho, stepG_out ho]
    exact (decide_eq_false (fun e => hk e.symm)).symm
theorem stepG_at {p : ProgS} {i k : Int} (h : stepIs p i k = true) : stepAt p i = stepG p i := by
  obtain ⟨n, hn, hl, _, e⟩ := stepIs_iff h
  rw [e, stepG_in hn hl]
theorem triesG_eq (p : ProgS) (j : JobS) : triesS p j = triesG p j := by
  unfold triesS triesG
  have h := stepG_is p j.step 1 (by decide)
  by_cases hk : (stepG p j.step).kind = 1
  · rw [if_pos hk, if_pos (by rw [h, decide_eq_true hk]), stepG_at (by rw [h, decide_eq_true hk])]
  · rw [if_neg hk, if_neg (by rw [h, decide_eq_false hk]; decide)]
theorem stepG_mem {p : ProgS} {i : Int} (h : (stepG p i).kind ≠ 0) : stepG p i ∈ p.steps := by
  by_cases hb : 0 ≤ i ∧ i < (p.steps.length : Int)
  · have hn : i = (i.toNat : Int) := by omega
    have hl : i.toNat < p.steps.length := by omega
    rw [stepG_in hn hl]
    exact List.getElem_mem hl
  · rw [stepG_out (by omega)] at h
    exact (h rfl).elim
theorem stepG_wait {p : ProgS} (hp : progB p = true) {i : Int} (h : (stepG p i).kind = 2) : 1 ≤ (stepG p i).wait ∧ (stepG p i).wait ≤ 1000 := by
  have hm := stepG_mem (p := p) (i := i) (by rw [h]; decide)
  unfold progB at hp
  simp only [Bool.and_eq_true, List.all_eq_true] at hp
  exact step_timer (hp.2 _ hm) h

section
variable {α : Type} {id : α → Int} {l : List α} {p q : α → Bool} {r : Int}
/-- Where no two have one number, what is found by the number is all there is. -/
theorem pick_one (hd : l.Pairwise fun a b => id a ≠ id b) (hp : ∀ x, p x = true → id x = r) :
    (∀ x, l.find? p = some x → l.any (fun y => p y && q y) = q x) ∧ (l.find? p = none → l.any (fun y => p y && q y) = false) := by
  induction l with
  | nil => exact ⟨fun x h => by simp at h, fun _ => rfl⟩
  | cons a t ih =>
    obtain ⟨ha, ht⟩ := List.pairwise_cons.1 hd
    obtain ⟨i1, i2⟩ := ih ht
    cases hpa : p a with
    | true =>
      refine ⟨fun x h => ?_, fun h => ?_⟩
      · rw [List.find?_cons_of_pos hpa] at h
        injection h with h
        subst h
        rw [List.any_cons, hpa, Bool.true_and]
        have : t.any (fun y => p y && q y) = false := by
          rw [List.any_eq_false]
          intro y hy hc
          rw [Bool.and_eq_true] at hc
          exact ha y hy ((hp a hpa).trans (hp y hc.1).symm)
        rw [this, Bool.or_false]
      · rw [List.find?_cons_of_pos hpa] at h
        cases h
    | false =>
      have hnp : ¬ p a = true := by rw [hpa]; decide
      rw [List.find?_cons_of_neg hnp, List.any_cons, hpa, Bool.false_and, Bool.false_or]
      exact ⟨i1, i2⟩
/-- Then those that are struck by the number are the one that was found. -/
theorem strike_one (hd : l.Pairwise fun a b => id a ≠ id b) (hp : ∀ x, p x = true → id x = r) (h : l.any p = true) :
    l.filter (fun x => !p x) = l.filter (fun x => decide (id x ≠ r)) := by
  induction l with
  | nil => rfl
  | cons a t ih =>
    obtain ⟨ha, ht⟩ := List.pairwise_cons.1 hd
    cases hpa : p a with
    | true =>
      have hida := hp a hpa
      have e1 : ∀ y ∈ t, p y = false := fun y hy => by
        cases hpy : p y with
        | false => rfl
        | true => exact (ha y hy (hida.trans (hp y hpy).symm)).elim
      have e2 : ∀ y ∈ t, id y ≠ r := fun y hy e => ha y hy (hida.trans e.symm)
      rw [List.filter_cons_of_neg (by rw [hpa]; decide), List.filter_cons_of_neg (by simp [hida])]
      rw [List.filter_eq_self.2 (fun y hy => by rw [e1 y hy]; rfl), List.filter_eq_self.2 (fun y hy => by simpa using e2 y hy)]
    | false =>
      rw [List.any_cons, hpa, Bool.false_or] at h
      have hne : id a ≠ r := by
        obtain ⟨y, hy, hpy⟩ := List.any_eq_true.1 h
        exact fun e => ha y hy (e.trans (hp y hpy).symm)
      rw [List.filter_cons_of_pos (by rw [hpa]; rfl), List.filter_cons_of_pos (by simpa using hne), ih ht h]
/-- .. and what is turned by the number is the one that was found. -/
theorem turn_one (hd : l.Pairwise fun a b => id a ≠ id b) (hp : ∀ x, p x = true → id x = r) {i : Nat} (h : l.findIdx? p = some i) (f : α → α) :
    ∃ hi : i < l.length, p l[i] = true ∧ l.map (fun x => if id x = r then f x else x) = l.set i (f l[i]) := by
  induction l generalizing i with
  | nil => simp at h
  | cons a t ih =>
    obtain ⟨ha, ht⟩ := List.pairwise_cons.1 hd
    rw [List.findIdx?_cons] at h
    cases hpa : p a with
    | true =>
      rw [hpa] at h
      simp only [if_true] at h
      injection h with h
      subst h
      have hida := hp a hpa
      refine ⟨by simp, hpa, ?_⟩
      rw [List.map_cons, if_pos hida, List.set_cons_zero, List.getElem_cons_zero]
      congr 1
      have : ∀ y ∈ t, (if id y = r then f y else y) = y := fun y hy => if_neg (fun e => ha y hy (hida.trans e.symm))
      rw [List.map_congr_left this]
      simp
    | false =>
      rw [hpa] at h
      simp only [Bool.false_eq_true, if_false] at h
      obtain ⟨k, hk, rfl⟩ := Option.map_eq_some_iff.1 h
      obtain ⟨hi, hpk, e⟩ := ih ht hk
      refine ⟨by simpa using hi, by simpa using hpk, ?_⟩
      have hne : id a ≠ r := fun e => ha _ (List.getElem_mem hi) (e.trans (hp _ hpk).symm)
      rw [List.map_cons, if_neg hne, e]
      simp
end
theorem any_found {α : Type} {l : List α} {p : α → Bool} : l.any p = true ↔ ∃ i, l.findIdx? p = some i := by
  rw [← Option.isSome_iff_exists, List.findIdx?_isSome]
theorem any_none {α : Type} {l : List α} {p : α → Bool} : l.any p = false ↔ l.findIdx? p = none := by
  rw [← Option.not_isSome_iff_eq_none, List.findIdx?_isSome]
  simp

section
variable {l : List EvS} {e : EvS} {s : StS}
theorem OkH.good (h : OkH l) : GoodS (stateH l) := by
  by_cases hl : l = []
  · subst hl
    exact ⟨List.Pairwise.nil, List.Pairwise.nil, by decide, by decide, (fun j hj => by cases hj), by decide, by decide⟩
  · rw [state_cons hl]
    have hlen := h.len
    have hd : (jobsL l l.length).Pairwise fun a b => a.id ≠ b.id := by
      unfold jobsL
      rw [List.pairwise_filterMap]
      refine List.Pairwise.imp ?_ List.pairwise_lt_range
      intro i j hij a ha b hb
      rw [jobAt_id ha, jobAt_id hb]
      omega
    have cd : (clksL l l.length).Pairwise fun a b => a.id ≠ b.id := by
      unfold clksL
      rw [List.pairwise_filterMap]
      refine List.Pairwise.imp ?_ List.pairwise_lt_range
      intro i j hij a ha b hb
      rw [clkAt_id ha, clkAt_id hb]
      omega
    have jl := jobsL_len l l.length
    have cl := clksL_len l l.length
    refine ⟨?_, ?_, ?_, ?_, ?_, h.prog hl, ?_⟩
    · show (jobsH l).Pairwise _
      unfold jobsH
      split
      · exact hd
      · exact List.Pairwise.nil
    · show (clksH l).Pairwise _
      unfold clksH
      split
      · exact cd
      · exact List.Pairwise.nil
    · show (jobsH l).length ≤ 500
      unfold jobsH
      split
      · omega
      · simp
    · show (clksH l).length ≤ 500
      unfold clksH
      split
      · omega
      · simp
    · show ∀ j ∈ jobsH l, _
      intro j hj
      unfold jobsH at hj
      split at hj
      · obtain ⟨i, hi, hji⟩ := jobs_ids hj
        have hv := jobAt_val hi
        rw [hji] at hv
        split at hv
        · injection hv with hv
          rw [hv]
          have := retr_len l ((i + 1 : Nat) : Int)
          simp only
          omega
        · cases hv
      · cases hj
    · show 0 ≤ beganH l ∧ beganH l ≤ 1099511627776
      obtain ⟨x, hx, hv, hk, ht⟩ := h.head hl
      have := ((evB_iff _).1 hv).tick
      omega
theorem isT_id (e : EvS) (j : JobS) (h : isT e j = true) : j.id = e.ref := by
  unfold isT at h
  simp only [Bool.and_eq_true, decide_eq_true_eq] at h
  exact h.1
theorem isF_id (e : EvS) (c : ClkS) (h : isF e c = true) : c.id = e.ref := by
  unfold isF at h
  simp only [Bool.and_eq_true, decide_eq_true_eq] at h
  exact h.1
/-- What an event of a job asks, as the program asks it. -/
def jobQ (p : ProgS) (e : EvS) (j : JobS) : Bool := if e.kind = 7 then true else if e.kind = 8 then decide (j.tryN < triesG p j) else decide (j.tryN = triesG p j)
theorem tried_is (hg : GoodS s) (hk : e.kind = 7 ∨ e.kind = 8 ∨ e.kind = 9) : triedS s.prog s.jobs e = s.jobs.any fun j => isT e j && jobQ s.prog e j := by
  obtain ⟨h1, h2⟩ := pick_one (q := jobQ s.prog e) hg.jd (isT_id e)
  unfold triedS
  have hfe : (fun j : JobS => decide (j.id = e.ref) && decide (j.tryN = e.tryN)) = isT e := rfl
  rw [hfe]
  cases hf : s.jobs.find? (isT e) with
  | none => exact (h2 hf).symm
  | some x =>
    rw [h1 x hf]
    have hx := List.find?_some hf
    have ht : x.tryN = e.tryN := by
      unfold isT at hx
      simp only [Bool.and_eq_true, decide_eq_true_eq] at hx
      exact hx.2
    simp only [triesG_eq]
    unfold jobQ
    rcases hk with hk | hk | hk <;> simp [hk, ht]
theorem fired_is (hg : GoodS s) : firedS s.clocks e = s.clocks.any (isF e) := by
  obtain ⟨h1, h2⟩ := pick_one (p := fun c : ClkS => decide (c.id = e.ref)) (q := fun c => decide (c.tick ≤ e.tick)) (r := e.ref) hg.cd (fun x h => by simpa using h)
  unfold firedS
  have hfe : (fun c : ClkS => decide (c.id = e.ref) && decide (c.tick ≤ e.tick)) = isF e := rfl
  rw [hfe] at h1 h2
  cases hf : s.clocks.find? fun c => decide (c.id = e.ref) with
  | none => exact (h2 hf).symm
  | some x => exact (h1 x hf).symm
theorem tried_any (hg : GoodS s) (hk : e.kind = 7 ∨ e.kind = 8 ∨ e.kind = 9) (h : triedS s.prog s.jobs e = true) : s.jobs.any (isT e) = true := by
  rw [tried_is hg hk] at h
  obtain ⟨j, hj, hp⟩ := List.any_eq_true.1 h
  rw [Bool.and_eq_true] at hp
  exact List.any_eq_true.2 ⟨j, hj, hp.1⟩
theorem job_struck (hg : GoodS s) (h : s.jobs.any (isT e) = true) : s.jobs.filter (fun j => !isT e j) = s.jobs.filter fun j => decide (j.id ≠ e.ref) := strike_one hg.jd (isT_id e) h
theorem clk_struck (hg : GoodS s) (h : s.clocks.any (isF e) = true) : s.clocks.filter (fun j => !isF e j) = s.clocks.filter fun c => decide (c.id ≠ e.ref) := strike_one hg.cd (isF_id e) h
theorem job_again (hg : GoodS s) {i : Nat} (h : s.jobs.findIdx? (isT e) = some i) : ∃ hi : i < s.jobs.length, s.jobs.map (againS e.ref) = s.jobs.set i { s.jobs[i] with tryN := s.jobs[i].tryN + 1 } := by
  obtain ⟨hi, _, h⟩ := turn_one hg.jd (isT_id e) h (fun j => { j with tryN := j.tryN + 1 })
  exact ⟨hi, h⟩
end
end Go.Proofs.Ytlkfpeefjpmmfaa

namespace Go.Proofs.Ytlkfpeefjpmmfaa
open Go.RowKit
set_option linter.unusedVariables false

def StS.val' (s : StS) (g j c : Value) : Value := .agg #[g, .int .i64 s.prog.limit, .int .i64 s.status, .int .i64 s.next, .int .i64 s.began, .int .i64 s.asked, .int .i64 s.taken, .bool s.fresh, j, c, .bool s.cancel, .bool s.overdue]
/-- A state's parts that can be read. -/
structure ReadSt (w : World) (g j c : Value) (s : StS) : Prop where
  g : ReadG w g s.prog.steps
  j : ReadJ w j s.jobs
  c : ReadC w c s.clocks
theorem ReadSt.below {w w' : World} {g j c : Value} {s : StS} (h : ReadSt w g j c s) (t : Below w.heap.size w w') : ReadSt w' g j c s := ⟨h.g.below t, h.j.below t, h.c.below t⟩
theorem ReadG.nil' (w : World) : ReadG w (.slice none 0 0) [] := ⟨by simp [maxLen], fun x hx => (by cases hx), none, 0, rfl, .inl rfl⟩
theorem ReadSt.zero (w : World) : ReadSt w (.slice none 0 0) (.slice none 0 0) (.slice none 0 0) StS.zero := ⟨ReadG.nil' w, ReadR.nil w, ReadR.nil w⟩
/-- What lies in a block without texts is no step. -/
theorem ReadG.far {w w' : World} {a : Option Addr} {c : Nat} {l : List StepS} {q : Nat} (h : ReadG w (.slice a l.length c) l) (ho : ∀ k, k ≠ q → w'.heap[k]? = w.heap[k]?) {cs : Array Value} {t : TypeId} (hq : w.heap[q]? = some (.cells cs t (0, 0))) (h2 : ∀ (i : Nat) (s : ByteArray), cs[i]? ≠ some (Value.string s)) : ReadG w' (.slice a l.length c) l := by
  obtain ⟨h1, h2', a', c', hv, h3⟩ := h
  refine ⟨h1, h2', a', c', hv, ?_⟩
  rcases h3 with h3 | ⟨b, o, rfl, h3⟩
  · exact .inl h3
  · by_cases hl : l = []
    · exact .inl hl
    · refine .inr ⟨b, o, rfl, fun i hi j u hu => ?_⟩
      have hne : b ≠ q := by
        intro e
        subst e
        have hp : 0 < l.length := List.length_pos_iff.2 hl
        have h4 := h3 0 hp 1 (.string l[0].name) rfl
        rw [block_cell hq] at h4
        exact h2 _ _ h4
      exact (World.cell?_of_block (w := w) (ho b hne)).trans (h3 i hi j u hu)
theorem OwnR.far {α : Type} {f : α → List Value} {sz base : Nat} {w w' : World} {v : Value} {l : List α} {q : Nat} (h : OwnR f sz base w v l) (hq : q < base) (ho : ∀ k, k ≠ q → w'.heap[k]? = w.heap[k]?) : ReadR f sz w' v l := by
  obtain ⟨⟨h1, a, c, rfl, h3⟩, h4, _⟩ := h
  refine ⟨h1, a, c, rfl, ?_⟩
  rcases h3 with h3 | ⟨b, o, rfl, h3⟩
  · exact .inl h3
  · have := (h4 b rfl).1
    exact .inr ⟨b, o, rfl, fun i hi j u hu => (World.cell?_of_block (w := w) (ho b (by omega))).trans (h3 i hi j u hu)⟩
theorem ReadR.far {α : Type} {f : α → List Value} {sz : Nat} {w w' : World} {v : Value} {l : List α} {q : Nat} (h : ReadR f sz w v l) (hq : ∀ k, v.ownBlock = some k → k ≠ q) (ho : ∀ k, k ≠ q → w'.heap[k]? = w.heap[k]?) : ReadR f sz w' v l := by
  obtain ⟨h1, a, c, rfl, h3⟩ := h
  refine ⟨h1, a, c, rfl, ?_⟩
  rcases h3 with h3 | ⟨b, o, rfl, h3⟩
  · exact .inl h3
  · exact .inr ⟨b, o, rfl, fun i hi j u hu => (World.cell?_of_block (w := w) (ho b (hq b rfl))).trans (h3 i hi j u hu)⟩
def zeroSt : Array Value := #[.slice none 0 0, .int .i64 0, .int .i64 0, .int .i64 0, .int .i64 0, .int .i64 0, .int .i64 0, .bool false, .slice none 0 0, .slice none 0 0, .bool false, .bool false]
theorem zeroSt_text : ∀ (i : Nat) (s : ByteArray), zeroSt[i]? ≠ some (Value.string s) := by
  intro i s h
  have hi : i < zeroSt.size := (Array.getElem?_eq_some_iff.1 h).1
  have hi : i < 12 := hi
  have hk : i = 0 ∨ i = 1 ∨ i = 2 ∨ i = 3 ∨ i = 4 ∨ i = 5 ∨ i = 6 ∨ i = 7 ∨ i = 8 ∨ i = 9 ∨ i = 10 ∨ i = 11 := by omega
  rcases hk with rfl | rfl | rfl | rfl | rfl | rfl | rfl | rfl | rfl | rfl | rfl | rfl <;> simp [zeroSt] at h
/-- A state's cells being set. -/
theorem setSt (w : World) (q : Nat) (u0 u1 u2 u3 u4 u5 u6 u7 u8 u9 u10 u11 : Value) :
    (∀ k, k ≠ q → ((((((((((((w.setCell ⟨q, 0, none⟩ u0).setCell ⟨q, 1, none⟩ u1).setCell ⟨q, 2, none⟩ u2).setCell ⟨q, 3, none⟩ u3).setCell ⟨q, 4, none⟩ u4).setCell ⟨q, 5, none⟩ u5).setCell ⟨q, 6, none⟩ u6).setCell ⟨q, 7, none⟩ u7).setCell ⟨q, 8, none⟩ u8).setCell ⟨q, 9, none⟩ u9).setCell ⟨q, 10, none⟩ u10).setCell ⟨q, 11, none⟩ u11).heap[k]? = w.heap[k]?) ∧
    ∀ B a, Below B a w → B ≤ q → Below B a ((((((((((((w.setCell ⟨q, 0, none⟩ u0).setCell ⟨q, 1, none⟩ u1).setCell ⟨q, 2, none⟩ u2).setCell ⟨q, 3, none⟩ u3).setCell ⟨q, 4, none⟩ u4).setCell ⟨q, 5, none⟩ u5).setCell ⟨q, 6, none⟩ u6).setCell ⟨q, 7, none⟩ u7).setCell ⟨q, 8, none⟩ u8).setCell ⟨q, 9, none⟩ u9).setCell ⟨q, 10, none⟩ u10).setCell ⟨q, 11, none⟩ u11) := by
  refine ⟨fun k hk => ?_, fun B a h hq => ?_⟩
  · have e : ∀ (W : World) (i : Nat) (u : Value), (W.setCell ⟨q, i, none⟩ u).heap[k]? = W.heap[k]? := fun W i u => Below.heap_setCell _ _ _ _ hk
    simp only [e]
  · exact (((((((((((h.setCell (p := ⟨q, 0, none⟩) hq _).setCell (p := ⟨q, 1, none⟩) hq _).setCell (p := ⟨q, 2, none⟩) hq _).setCell (p := ⟨q, 3, none⟩) hq _).setCell (p := ⟨q, 4, none⟩) hq _).setCell (p := ⟨q, 5, none⟩) hq _).setCell (p := ⟨q, 6, none⟩) hq _).setCell (p := ⟨q, 7, none⟩) hq _).setCell (p := ⟨q, 8, none⟩) hq _).setCell (p := ⟨q, 9, none⟩) hq _).setCell (p := ⟨q, 10, none⟩) hq _).setCell (p := ⟨q, 11, none⟩) hq _
def ClkS.val' (c : ClkS) : Value := .agg #[.int .i64 c.id, .int .i64 c.step, .int .i64 c.tick]
/-- A state's cells. -/
def StS.arr (s : StS) (g j c : Value) : Array Value := #[g, .int .i64 s.prog.limit, .int .i64 s.status, .int .i64 s.next, .int .i64 s.began, .int .i64 s.asked, .int .i64 s.taken, .bool s.fresh, j, c, .bool s.cancel, .bool s.overdue]

/-- A state in a box. -/
def StBox (w : World) (b : Nat) (g j k : Value) (s : StS) : Prop := w.heap[b]? = some (.cells (s.arr g j k) 30 (0, 0))
theorem StBox.lt {w : World} {b : Nat} {g j k : Value} {s : StS} (h : StBox w b g j k s) : b < w.heap.size := block_lt h
theorem StBox.later {w w' : World} {b : Nat} {g j k : Value} {s : StS} (h : StBox w b g j k s) (t : Below w.heap.size w w') : StBox w' b g j k s := (t.block b h.lt).trans h
theorem StBox.cells {w : World} {b : Nat} {g j k : Value} {s : StS} (h : StBox w b g j k s) : w.heap[b]? = some (.cells #[g, .int .i64 s.prog.limit, .int .i64 s.status, .int .i64 s.next, .int .i64 s.began, .int .i64 s.asked, .int .i64 s.taken, .bool s.fresh, j, k, .bool s.cancel, .bool s.overdue] 30 (0, 0)) := h
theorem stBoxed (w : World) (g j k : Value) (s : StS) : ∃ w', w.alloc (.cells #[g, .int .i64 s.prog.limit, .int .i64 s.status, .int .i64 s.next, .int .i64 s.began, .int .i64 s.asked, .int .i64 s.taken, .bool s.fresh, j, k, .bool s.cancel, .bool s.overdue] 30) = w' ∧ Below w.heap.size w w' ∧ StBox w' w.heap.size g j k s ∧ w'.heap.size = w.heap.size + 1 :=
  ⟨_, rfl, (Below.refl _ w).alloc (Nat.le_refl _) _, heap_alloc_new _ _, by simp⟩
end Go.Proofs.Ytlkfpeefjpmmfaa

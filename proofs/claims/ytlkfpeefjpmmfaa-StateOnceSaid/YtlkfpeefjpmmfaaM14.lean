/- Layer 14, plain facts: what a history has come to, looked for in the whole of it (the document's answer) and step by step; that both are the same. -/
import Derived.Test.YtlkfpeefjpmmfaaM13
namespace Go.Proofs.Ytlkfpeefjpmmfaa
set_option linter.unusedVariables false

structure JobS where
  id : Int
  step : Int
  undo : Bool
  tryN : Int
deriving DecidableEq
structure ClkS where
  id : Int
  step : Int
  tick : Int
deriving DecidableEq
structure StS where
  prog : ProgS
  status : Int
  next : Int
  began : Int
  asked : Int
  taken : Int
  fresh : Bool
  jobs : List JobS
  clocks : List ClkS
  cancel : Bool
  overdue : Bool
def StS.zero : StS := ⟨⟨[], 0⟩, 0, 0, 0, 0, 0, false, [], [], false, false⟩

/-- The program of a started workflow. -/
def progE (e : EvS) : ProgS := (rdProg e.data.data.toList).1
def progH (l : List EvS) : ProgS := match l.head? with | some e => progE e | none => ⟨[], 0⟩
def beganH (l : List EvS) : Int := match l.head? with | some e => e.tick | none => 0
def statusK (k : Int) : Nat := if k = 15 then 1 else if k = 16 then 2 else if k = 17 then 3 else if k = 18 then 4 else 0
def statusH (l : List EvS) : Nat := match l.getLast? with | some e => statusK e.kind | none => 0
def endedH (l : List EvS) (r a b : Int) : Bool := l.any fun e => decide (e.ref = r) && (decide (e.kind = a) || decide (e.kind = b))
def lastP (l : List EvS) (k : Int) : Nat × Nat := l.foldl (fun x e => (x.1 + 1, if e.kind = k then x.1 + 1 else x.2)) (0, 0)
def lastH (l : List EvS) (k : Int) : Nat := (lastP l k).2
def askedH (l : List EvS) : Nat := if endedH l (lastH l 2) 3 3 || !decide (statusH l = 0) then 0 else lastH l 2
def takenH (l : List EvS) : Nat := if endedH l (lastH l 3) 4 5 || !decide (statusH l = 0) then 0 else lastH l 3
def freshK (k : Int) : Bool := decide (k = 1) || decide (k = 5) || decide (k = 7) || decide (k = 9) || decide (k = 11) || decide (k = 12) || decide (k = 13) || decide (k = 14)
def freshH (l : List EvS) : Bool := decide (statusH l = 0) && (l.drop (lastH l 3)).any fun e => freshK e.kind
def stepIs (p : ProgS) (i : Int) (k : Int) : Bool := match p.steps[i.toNat]? with | some x => decide (0 ≤ i) && decide (x.kind = k) | none => false
def stepAt (p : ProgS) (i : Int) : StepS := p.steps.getD i.toNat ⟨0, ⟨#[]⟩, ⟨#[]⟩, 0, 0, 0⟩
def triesS (p : ProgS) (j : JobS) : Int := if stepIs p j.step 1 then (if j.undo then (stepAt p j.step).undoTries else (stepAt p j.step).tries) else 0
def retrH (l : List EvS) (r : Int) : Nat := l.countP fun e => decide (e.kind = 8) && decide (e.ref = r)
def jobAt (l : List EvS) (i : Nat) : Option JobS :=
  match l[i]? with
  | some e => if e.kind = 6 ∧ endedH l ((i + 1 : Nat) : Int) 7 9 = false then some ⟨((i + 1 : Nat) : Int), e.step, e.undo, ((1 + retrH l ((i + 1 : Nat) : Int) : Nat) : Int)⟩ else none
  | none => none
def jobsL (l : List EvS) (n : Nat) : List JobS := (List.range n).filterMap (jobAt l)
def jobsH (l : List EvS) : List JobS := if statusH l = 0 then jobsL l l.length else []
def clkAt (l : List EvS) (i : Nat) : Option ClkS :=
  match l[i]? with
  | some e => if e.kind = 10 ∧ endedH l ((i + 1 : Nat) : Int) 11 11 = false then some ⟨((i + 1 : Nat) : Int), e.step, e.tick + (stepAt (progH l) e.step).wait⟩ else none
  | none => none
def clksL (l : List EvS) (n : Nat) : List ClkS := (List.range n).filterMap (clkAt l)
def clksH (l : List EvS) : List ClkS := if statusH l = 0 then clksL l l.length else []
def stateH (l : List EvS) : StS :=
  if l = [] then StS.zero else ⟨progH l, statusH l, ((l.length + 1 : Nat) : Int), beganH l, askedH l, takenH l, freshH l, jobsH l, clksH l, decide (0 < lastH l 13), decide (0 < lastH l 14)⟩

def triedS (p : ProgS) (l : List JobS) (e : EvS) : Bool :=
  match l.find? fun j => decide (j.id = e.ref) && decide (j.tryN = e.tryN) with
  | some j => decide (e.kind = 7) || (decide (e.kind = 8) && decide (e.tryN < triesS p j)) || (decide (e.kind = 9) && decide (e.tryN = triesS p j))
  | none => false
def firedS (l : List ClkS) (e : EvS) : Bool :=
  match l.find? fun c => decide (c.id = e.ref) with
  | some c => decide (c.tick ≤ e.tick)
  | none => false
/-- May an event come behind a state that isn't the first? -/
def canS (s : StS) (e : EvS) : Bool :=
  if e.kind = 2 then decide (s.asked = 0) && decide (s.taken = 0) && s.fresh
  else if e.kind = 3 then decide (s.asked = e.ref)
  else if e.kind = 4 ∨ e.kind = 5 then decide (s.taken = e.ref)
  else if e.kind = 6 then stepIs s.prog e.step 1 && (!e.undo || decide ((stepAt s.prog e.step).undo.size ≠ 0))
  else if e.kind = 7 ∨ e.kind = 8 ∨ e.kind = 9 then triedS s.prog s.jobs e
  else if e.kind = 10 then stepIs s.prog e.step 2
  else if e.kind = 11 then firedS s.clocks e
  else if e.kind = 12 ∨ e.kind = 18 then true
  else if e.kind = 13 then !s.cancel
  else if e.kind = 14 then !s.overdue && decide (s.prog.limit ≠ 0) && decide (s.began + s.prog.limit ≤ e.tick)
  else if e.kind = 15 ∨ e.kind = 16 ∨ e.kind = 17 then decide (s.asked = 0) && decide (s.taken = 0) && decide (s.jobs = [])
  else false
/-- The error of an event behind a state; 0: it can come. -/
def errS (s : StS) (e : EvS) : Nat :=
  if evB e = false then 120
  else if s.next = 0 then (if e.kind = 1 ∧ e.id = 1 then 0 else 120)
  else if s.status ≠ 0 then 182
  else if e.id = s.next ∧ canS s e = true then 0 else 120
def againS (r : Int) (j : JobS) : JobS := if j.id = r then { j with tryN := j.tryN + 1 } else j
/-- What a state becomes by an event that can come. -/
def aftS (s : StS) (e : EvS) : StS :=
  if s.next = 0 then ⟨progE e, 0, 2, e.tick, 0, 0, true, [], [], false, false⟩
  else
    let t := { s with next := s.next + 1 }
    if e.kind = 2 then { t with asked := e.id }
    else if e.kind = 3 then { t with taken := e.id, asked := 0, fresh := false }
    else if e.kind = 4 then { t with taken := 0 }
    else if e.kind = 5 then { t with taken := 0, fresh := true }
    else if e.kind = 6 then { t with jobs := s.jobs ++ [⟨e.id, e.step, e.undo, 1⟩] }
    else if e.kind = 7 ∨ e.kind = 9 then { t with jobs := s.jobs.filter fun j => decide (j.id ≠ e.ref), fresh := true }
    else if e.kind = 8 then { t with jobs := s.jobs.map (againS e.ref) }
    else if e.kind = 10 then { t with clocks := s.clocks ++ [⟨e.id, e.step, e.tick + (stepAt s.prog e.step).wait⟩] }
    else if e.kind = 11 then { t with clocks := s.clocks.filter fun c => decide (c.id ≠ e.ref), fresh := true }
    else if e.kind = 12 then { t with fresh := true }
    else if e.kind = 13 then { t with cancel := true, fresh := true }
    else if e.kind = 14 then { t with overdue := true, fresh := true }
    else { t with status := statusK e.kind, asked := 0, taken := 0, fresh := false, jobs := [], clocks := [] }

/-- A history: each of its events can come behind those ahead of it. -/
inductive OkH : List EvS → Prop
  | nil : OkH []
  | snoc {l : List EvS} {e : EvS} : OkH l → errS (stateH l) e = 0 → OkH (l ++ [e])

section
variable {l : List EvS} {e : EvS}
theorem ended_snoc (l : List EvS) (e : EvS) (r a b : Int) : endedH (l ++ [e]) r a b = (endedH l r a b || (decide (e.ref = r) && (decide (e.kind = a) || decide (e.kind = b)))) := by
  unfold endedH
  rw [List.any_append]
  simp
theorem lastP_len (l : List EvS) (k : Int) (x : Nat × Nat) : (l.foldl (fun x e => (x.1 + 1, if e.kind = k then x.1 + 1 else x.2)) x).1 = x.1 + l.length := by
  induction l generalizing x with
  | nil => rfl
  | cons e r ih =>
    rw [List.foldl_cons, ih, List.length_cons]
    simp only
    omega
theorem last_snoc (l : List EvS) (e : EvS) (k : Int) : lastH (l ++ [e]) k = if e.kind = k then l.length + 1 else lastH l k := by
  have h := lastP_len l k (0, 0)
  unfold lastH lastP
  rw [List.foldl_append, List.foldl_cons, List.foldl_nil]
  simp only
  split
  · rw [h]; simp
  · rfl
theorem last_le (l : List EvS) (k : Int) : lastH l k ≤ l.length := by
  suffices h : ∀ n, n ≤ l.length → lastH (l.take n) k ≤ n by
    have := h l.length (Nat.le_refl _)
    rwa [List.take_length] at this
  intro n
  induction n with
  | zero => intro _; simp [lastH, lastP]
  | succ n ih =>
    intro hn
    rw [List.take_succ_eq_append_getElem (by omega), last_snoc]
    split
    · rw [List.length_take]; omega
    · have := ih (by omega); omega
theorem status_snoc (l : List EvS) (e : EvS) : statusH (l ++ [e]) = statusK e.kind := by
  unfold statusH
  rw [List.getLast?_concat]
theorem prog_snoc (h : l ≠ []) (e : EvS) : progH (l ++ [e]) = progH l := by
  cases l with
  | nil => exact (h rfl).elim
  | cons x r => rfl
theorem began_snoc (h : l ≠ []) (e : EvS) : beganH (l ++ [e]) = beganH l := by
  cases l with
  | nil => exact (h rfl).elim
  | cons x r => rfl
theorem retr_snoc (l : List EvS) (e : EvS) (r : Int) : retrH (l ++ [e]) r = retrH l r + if e.kind = 8 ∧ e.ref = r then 1 else 0 := by
  unfold retrH
  rw [List.countP_append, List.countP_cons, List.countP_nil]
  simp
theorem state_cons (h : l ≠ []) : stateH l = ⟨progH l, statusH l, ((l.length + 1 : Nat) : Int), beganH l, askedH l, takenH l, freshH l, jobsH l, clksH l, decide (0 < lastH l 13), decide (0 < lastH l 14)⟩ := by
  unfold stateH
  rw [if_neg h]
theorem state_next (l : List EvS) : (stateH l).next = 0 ↔ l = [] := by
  constructor
  · intro h
    by_cases hl : l = []
    · exact hl
    · rw [state_cons hl] at h
      simp only at h
      omega
  · rintro rfl
    rfl
/-- What an event that can come is. -/
theorem err_zero {s : StS} (h : errS s e = 0) : evB e = true ∧ (s.next = 0 → e.kind = 1 ∧ e.id = 1) ∧ (s.next ≠ 0 → s.status = 0 ∧ e.id = s.next ∧ canS s e = true) := by
  unfold errS at h
  by_cases hv : evB e = true
  · rw [if_neg (by rw [hv]; decide)] at h
    refine ⟨hv, fun hn => ?_, fun hn => ?_⟩
    · rw [if_pos hn] at h
      by_cases hk : e.kind = 1 ∧ e.id = 1
      · exact hk
      · rw [if_neg hk] at h; cases h
    · rw [if_neg hn] at h
      by_cases hs : s.status = 0
      · rw [if_neg (by rw [hs]; decide)] at h
        by_cases hc : e.id = s.next ∧ canS s e = true
        · exact ⟨hs, hc⟩
        · rw [if_neg hc] at h; cases h
      · rw [if_pos hs] at h; cases h
  · rw [if_pos (by simpa using hv)] at h
    cases h
theorem OkH.ev (h : OkH l) : ∀ i (hi : i < l.length), l[i].id = ((i + 1 : Nat) : Int) ∧ evB l[i] = true := by
  induction h with
  | nil => intro i hi; simp at hi
  | @snoc l e h0 he ih =>
    intro i hi
    rw [List.length_append, List.length_singleton] at hi
    by_cases hlt : i < l.length
    · rw [List.getElem_append_left hlt]; exact ih i hlt
    · obtain rfl : i = l.length := by omega
      rw [List.getElem_append_right (Nat.le_refl _)]
      simp only [Nat.sub_self, List.getElem_cons_zero]
      obtain ⟨h1, h2, h3⟩ := err_zero he
      refine ⟨?_, h1⟩
      by_cases hl : l = []
      · rw [(h2 ((state_next l).2 hl)).2, hl]; rfl
      · rw [(h3 (fun e => hl ((state_next l).1 e))).2.1, state_cons hl]
/-- What a Ref names came ahead. -/
theorem ev_ref (h : evB e = true) : 0 ≤ e.ref ∧ e.ref < e.id := by
  have h := (evB_iff e).1 h
  cases hc : (shapeL e.kind).contains 114 with
  | true => have := h.ref hc; omega
  | false => have := h.ref0 hc; have := h.id; omega
theorem OkH.refs (h : OkH l) {x : EvS} (hx : x ∈ l) : 0 ≤ x.ref ∧ x.ref < l.length := by
  obtain ⟨i, hi, rfl⟩ := List.getElem_of_mem hx
  have h1 := h.ev i hi
  have h2 := ev_ref h1.2
  omega
theorem OkH.not_ended (h : OkH l) (a b : Int) {r : Int} (hr : l.length ≤ r) : endedH l r a b = false := by
  cases hc : endedH l r a b with
  | false => rfl
  | true =>
    unfold endedH at hc
    obtain ⟨x, hx, hp⟩ := List.any_eq_true.1 hc
    simp only [Bool.and_eq_true, decide_eq_true_eq] at hp
    have := (h.refs hx).2
    omega
theorem OkH.not_retr (h : OkH l) {r : Int} (hr : l.length ≤ r) : retrH l r = 0 := by
  unfold retrH
  rw [List.countP_eq_zero]
  intro x hx hp
  simp only [Bool.and_eq_true, decide_eq_true_eq] at hp
  have := (h.refs hx).2
  omega
theorem can_one {s : StS} (h : canS s e = true) : e.kind ≠ 1 := by
  intro hk
  unfold canS at h
  simp [hk] at h
end
end Go.Proofs.Ytlkfpeefjpmmfaa

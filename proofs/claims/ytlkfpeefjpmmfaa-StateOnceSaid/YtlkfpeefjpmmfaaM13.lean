/- Layer 13, plain facts: events and histories; their bytes, there and back. -/
import Derived.Test.YtlkfpeefjpmmfaaJ02
import Derived.Test.YtlkfpeefjpmmfaaM12
namespace Go.Proofs.Ytlkfpeefjpmmfaa
set_option linter.unusedVariables false

structure EvS where
  id : Int
  kind : Int
  tick : Int
  ref : Int
  step : Int
  tryN : Int
  undo : Bool
  data : ByteArray
deriving DecidableEq

/-- A kind's fields: r Ref, s Step, t Try, u Undo, p a program, n a name. -/
def shapeN (k : Nat) : List UInt8 :=
  if k = 1 then [112]
  else if k = 3 ∨ k = 4 ∨ k = 5 ∨ k = 11 then [114]
  else if k = 6 then [115, 117]
  else if k = 7 ∨ k = 8 ∨ k = 9 then [114, 116]
  else if k = 10 then [115]
  else if k = 12 then [110]
  else []
theorem shape_cases (k : Nat) : shapeN k = [112] ∨ shapeN k = [114] ∨ shapeN k = [115, 117] ∨ shapeN k = [114, 116] ∨ shapeN k = [115] ∨ shapeN k = [110] ∨ shapeN k = [] := by
  unfold shapeN
  split
  · simp
  split
  · simp
  split
  · simp
  split
  · simp
  split
  · simp
  split
  · simp
  · simp
def shapeL (k : Int) : List UInt8 := shapeN k.toNat

/-- A field that is there and from low to high, or not there and zero. -/
def fieldB (f : List UInt8) (c : UInt8) (n low high : Int) : Bool := if f.contains c then inB n low high else decide (n = 0)
def dataB (f : List UInt8) (s : ByteArray) : Bool := if f = [112] then okB s.data.toList else if f = [110] then nameB s else decide (s.size = 0)
def undoF (f : List UInt8) (u : Bool) : Bool := !u || decide (f = [115, 117])
def evF (f : List UInt8) (e : EvS) : Bool := fieldB f 114 e.ref 1 (e.id - 1) && fieldB f 115 e.step 0 15 && fieldB f 116 e.tryN 1 5 && undoF f e.undo && dataB f e.data
def evB (e : EvS) : Bool := inB e.kind 1 18 && inB e.id 1 500 && inB e.tick 0 1099511627776 && evF (shapeL e.kind) e

/-- A field's bytes. -/
def fldL (e : EvS) (c : UInt8) : List UInt8 :=
  if c = 114 then putL e.ref.toNat else if c = 115 then putL e.step.toNat else if c = 116 then putL e.tryN.toNat else if c = 117 then putL (if e.undo then 1 else 0) else textL e.data
def headL (e : EvS) : List UInt8 := putL e.id.toNat ++ putL e.kind.toNat ++ putL e.tick.toNat
def fldsL (e : EvS) (f : List UInt8) : List UInt8 := f.flatMap (fldL e)
def encEv (e : EvS) : List UInt8 := headL e ++ fldsL e (shapeL e.kind)

/-- What a field's reading gives. -/
def rdFld (x : EvS × Option (List UInt8)) (c : UInt8) : EvS × Option (List UInt8) :=
  if c = 114 then let a := intS 1000 x.2; ({ x.1 with ref := (a.1 : Int) }, a.2)
  else if c = 115 then let a := intS 100 x.2; ({ x.1 with step := (a.1 : Int) }, a.2)
  else if c = 116 then let a := intS 100 x.2; ({ x.1 with tryN := (a.1 : Int) }, a.2)
  else if c = 117 then let a := intS 1 x.2; ({ x.1 with undo := decide (a.1 = 1) }, a.2)
  else let a := textS x.2; ({ x.1 with data := ⟨a.1.toArray⟩ }, a.2)
def rdHead (R : Option (List UInt8)) : EvS × Option (List UInt8) :=
  let a := intS 1000 R; let b := intS 100 a.2; let c := intS 1125899906842624 b.2
  (⟨(a.1 : Int), (b.1 : Int), (c.1 : Int), 0, 0, 0, false, ⟨#[]⟩⟩, c.2)
def rdFlds (x : EvS × Option (List UInt8)) (f : List UInt8) : EvS × Option (List UInt8) := f.foldl rdFld x
def rdEv (R : Option (List UInt8)) : EvS × Option (List UInt8) := rdFlds (rdHead R) (shapeL (rdHead R).1.kind)

theorem intS_lit {n m : Nat} (h : n ≤ m) (hm : m < 18446744073709551616) (r : List UInt8) : intS (m : Int) (some (putL n ++ r)) = (n, some r) := intS_put h hm r
theorem rd_ref {e x : EvS} (h1 : 0 ≤ e.ref) (h2 : e.ref ≤ 1000) (r : List UInt8) : rdFld (x, some (fldL e 114 ++ r)) 114 = ({ x with ref := e.ref }, some r) := by
  have : ∀ r, intS 1000 (some (putL e.ref.toNat ++ r)) = (e.ref.toNat, some r) := intS_lit (m := 1000) (by omega) (by decide)
  have e1 : (e.ref.toNat : Int) = e.ref := by omega
  simp [rdFld, fldL, this, e1]
theorem rd_stepE {e x : EvS} (h1 : 0 ≤ e.step) (h2 : e.step ≤ 100) (r : List UInt8) : rdFld (x, some (fldL e 115 ++ r)) 115 = ({ x with step := e.step }, some r) := by
  have : ∀ r, intS 100 (some (putL e.step.toNat ++ r)) = (e.step.toNat, some r) := intS_lit (m := 100) (by omega) (by decide)
  have e1 : (e.step.toNat : Int) = e.step := by omega
  simp [rdFld, fldL, this, e1]
theorem rd_try {e x : EvS} (h1 : 0 ≤ e.tryN) (h2 : e.tryN ≤ 100) (r : List UInt8) : rdFld (x, some (fldL e 116 ++ r)) 116 = ({ x with tryN := e.tryN }, some r) := by
  have : ∀ r, intS 100 (some (putL e.tryN.toNat ++ r)) = (e.tryN.toNat, some r) := intS_lit (m := 100) (by omega) (by decide)
  have e1 : (e.tryN.toNat : Int) = e.tryN := by omega
  simp [rdFld, fldL, this, e1]
theorem rd_undo {e x : EvS} (r : List UInt8) : rdFld (x, some (fldL e 117 ++ r)) 117 = ({ x with undo := e.undo }, some r) := by
  have h1 : ∀ r, intS 1 (some (putL 1 ++ r)) = (1, some r) := intS_lit (m := 1) (by omega) (by decide)
  have h0 : ∀ r, intS 1 (some (putL 0 ++ r)) = (0, some r) := intS_lit (m := 1) (by omega) (by decide)
  cases hu : e.undo <;> simp [rdFld, fldL, h0, h1, hu]
theorem rd_data {e x : EvS} (h : e.data.size ≤ 1048576) {c : UInt8} (hc : c = 112 ∨ c = 110) (r : List UInt8) : rdFld (x, some (fldL e c ++ r)) c = ({ x with data := e.data }, some r) := by
  rcases hc with rfl | rfl <;> simp [rdFld, fldL, textS_text h]
theorem rd_head {e : EvS} (h1 : 0 ≤ e.id) (h2 : e.id ≤ 1000) (h3 : 0 ≤ e.kind) (h4 : e.kind ≤ 100) (h5 : 0 ≤ e.tick) (h6 : e.tick ≤ 1125899906842624) (r : List UInt8) :
    rdHead (some (headL e ++ r)) = (⟨e.id, e.kind, e.tick, 0, 0, 0, false, ⟨#[]⟩⟩, some r) := by
  have a1 : ∀ r, intS 1000 (some (putL e.id.toNat ++ r)) = (e.id.toNat, some r) := intS_lit (m := 1000) (by omega) (by decide)
  have a2 : ∀ r, intS 100 (some (putL e.kind.toNat ++ r)) = (e.kind.toNat, some r) := intS_lit (m := 100) (by omega) (by decide)
  have a3 : ∀ r, intS 1125899906842624 (some (putL e.tick.toNat ++ r)) = (e.tick.toNat, some r) := intS_lit (m := 1125899906842624) (by omega) (by decide)
  have e1 : (e.id.toNat : Int) = e.id := by omega
  have e2 : (e.kind.toNat : Int) = e.kind := by omega
  have e3 : (e.tick.toNat : Int) = e.tick := by omega
  unfold rdHead headL
  simp only [List.append_assoc, a1, a2, a3, e1, e2, e3]

/-- A program's bytes are few. -/
theorem encProg_len {p : ProgS} (h : progB p = true) : (encProg p).length ≤ 1000 := by
  unfold progB at h
  simp only [Bool.and_eq_true, decide_eq_true_eq, inB_iff] at h
  have h1 := encSteps_len p.steps h.2
  have h2 := putL_len 4 p.limit.toNat (by omega)
  have h3 := putL_len 4 p.steps.length (by omega)
  unfold encProg
  simp only [List.length_append]
  omega
theorem dataB_size {f : List UInt8} {s : ByteArray} (h : dataB f s = true) : s.size ≤ 1000 := by
  unfold dataB at h
  have e : s.data.toList.length = s.size := by simp
  split at h
  · obtain ⟨p, hp, he⟩ := (okB_iff _).1 h
    have := encProg_len hp
    rw [he] at this
    omega
  split at h
  · have := name_size h
    omega
  · simp only [decide_eq_true_eq] at h
    omega
structure EvOK (e : EvS) : Prop where
  kind : 1 ≤ e.kind ∧ e.kind ≤ 18
  id : 1 ≤ e.id ∧ e.id ≤ 500
  tick : 0 ≤ e.tick ∧ e.tick ≤ 1099511627776
  ref : (shapeL e.kind).contains 114 = true → 1 ≤ e.ref ∧ e.ref ≤ e.id - 1
  ref0 : (shapeL e.kind).contains 114 = false → e.ref = 0
  step : (shapeL e.kind).contains 115 = true → 0 ≤ e.step ∧ e.step ≤ 15
  step0 : (shapeL e.kind).contains 115 = false → e.step = 0
  tryN : (shapeL e.kind).contains 116 = true → 1 ≤ e.tryN ∧ e.tryN ≤ 5
  try0 : (shapeL e.kind).contains 116 = false → e.tryN = 0
  undo : shapeL e.kind ≠ [115, 117] → e.undo = false
  data : dataB (shapeL e.kind) e.data = true
theorem fieldB_iff {f : List UInt8} {c : UInt8} {n low high : Int} : fieldB f c n low high = true ↔ (f.contains c = true → low ≤ n ∧ n ≤ high) ∧ (f.contains c = false → n = 0) := by
  unfold fieldB
  cases f.contains c <;> simp [inB]
theorem evB_iff (e : EvS) : evB e = true ↔ EvOK e := by
  unfold evB evF
  simp only [Bool.and_eq_true, fieldB_iff, inB_iff]
  constructor
  · rintro ⟨⟨⟨h1, h2⟩, h3⟩, ⟨⟨⟨h4, h5⟩, h6⟩, h7⟩, h8⟩
    refine ⟨h1, h2, h3, h4.1, h4.2, h5.1, h5.2, h6.1, h6.2, fun hn => ?_, h8⟩
    unfold undoF at h7
    cases hu : e.undo
    · rfl
    · rw [hu] at h7
      simp [hn] at h7
  · intro h
    refine ⟨⟨⟨h.kind, h.id⟩, h.tick⟩, ⟨⟨⟨⟨h.ref, h.ref0⟩, h.step, h.step0⟩, h.tryN, h.try0⟩, ?_⟩, h.data⟩
    unfold undoF
    by_cases hs : shapeL e.kind = [115, 117]
    · simp [hs]
    · simp [h.undo hs]

theorem rd_ev {e : EvS} (h : evB e = true) (r : List UInt8) : rdEv (some (encEv e ++ r)) = (e, some r) := by
  have h := (evB_iff e).1 h
  have hd := dataB_size h.data
  obtain ⟨h1, h2, h3, h4, h5, h6, h7, h8, h9, h10, h11⟩ := h
  unfold rdEv encEv
  rw [List.append_assoc, rd_head (by omega) (by omega) (by omega) (by omega) (by omega) (by omega)]
  simp only
  have hk := shape_cases e.kind.toNat
  rw [show shapeN e.kind.toNat = shapeL e.kind from rfl] at hk
  generalize shapeL e.kind = f at *
  obtain ⟨id, kind, tick, ref, step, tryN, undo, data⟩ := e
  simp only at *
  have hz : data.size = 0 → data = ⟨#[]⟩ := ba_zero
  rcases hk with rfl | rfl | rfl | rfl | rfl | rfl | rfl
  · have a1 := h5 rfl
    have a2 := h7 rfl
    have a3 := h9 rfl
    have a4 := h10 (by decide)
    subst a1 a2 a3 a4
    simp only [rdFlds, fldsL, List.flatMap_cons, List.flatMap_nil, List.foldl, List.append_nil]
    rw [rd_data (e := ⟨id, kind, tick, 0, 0, 0, false, data⟩) (by show data.size ≤ _; omega) (Or.inl rfl)]
  · have a0 := h4 rfl
    have a2 := h7 rfl
    have a3 := h9 rfl
    have a4 := h10 (by decide)
    have a5 : data = ⟨#[]⟩ := hz (by simpa [dataB] using h11)
    subst a2 a3 a4 a5
    simp only [rdFlds, fldsL, List.flatMap_cons, List.flatMap_nil, List.foldl, List.append_nil]
    rw [rd_ref (e := ⟨id, kind, tick, ref, 0, 0, false, ⟨#[]⟩⟩) (by show 0 ≤ ref; omega) (by show ref ≤ _; omega)]
  · have a1 := h5 rfl
    have a2 := h6 rfl
    have a3 := h9 rfl
    have a5 : data = ⟨#[]⟩ := hz (by simpa [dataB] using h11)
    subst a1 a3 a5
    simp only [rdFlds, fldsL, List.flatMap_cons, List.flatMap_nil, List.foldl, List.append_nil, List.append_assoc]
    rw [rd_stepE (e := ⟨id, kind, tick, 0, step, 0, undo, ⟨#[]⟩⟩) (by show 0 ≤ step; omega) (by show step ≤ _; omega)]
    rw [rd_undo (e := ⟨id, kind, tick, 0, step, 0, undo, ⟨#[]⟩⟩)]
  · have a1 := h4 rfl
    have a2 := h7 rfl
    have a3 := h8 rfl
    have a4 := h10 (by decide)
    have a5 : data = ⟨#[]⟩ := hz (by simpa [dataB] using h11)
    subst a2 a4 a5
    simp only [rdFlds, fldsL, List.flatMap_cons, List.flatMap_nil, List.foldl, List.append_nil, List.append_assoc]
    rw [rd_ref (e := ⟨id, kind, tick, ref, 0, tryN, false, ⟨#[]⟩⟩) (by show 0 ≤ ref; omega) (by show ref ≤ _; omega)]
    rw [rd_try (e := ⟨id, kind, tick, ref, 0, tryN, false, ⟨#[]⟩⟩) (by show 0 ≤ tryN; omega) (by show tryN ≤ _; omega)]
  · have a1 := h5 rfl
    have a2 := h6 rfl
    have a3 := h9 rfl
    have a4 := h10 (by decide)
    have a5 : data = ⟨#[]⟩ := hz (by simpa [dataB] using h11)
    subst a1 a3 a4 a5
    simp only [rdFlds, fldsL, List.flatMap_cons, List.flatMap_nil, List.foldl, List.append_nil]
    rw [rd_stepE (e := ⟨id, kind, tick, 0, step, 0, false, ⟨#[]⟩⟩) (by show 0 ≤ step; omega) (by show step ≤ _; omega)]
  · have a1 := h5 rfl
    have a2 := h7 rfl
    have a3 := h9 rfl
    have a4 := h10 (by decide)
    subst a1 a2 a3 a4
    simp only [rdFlds, fldsL, List.flatMap_cons, List.flatMap_nil, List.foldl, List.append_nil]
    rw [rd_data (e := ⟨id, kind, tick, 0, 0, 0, false, data⟩) (by show data.size ≤ _; omega) (Or.inr rfl)]
  · have a1 := h5 rfl
    have a2 := h7 rfl
    have a3 := h9 rfl
    have a4 := h10 (by decide)
    have a5 : data = ⟨#[]⟩ := hz (by simpa [dataB] using h11)
    subst a1 a2 a3 a4 a5
    simp [rdFlds, fldsL]
theorem encEv_one {a b : EvS} (ha : evB a = true) (hb : evB b = true) (h : encEv a = encEv b) : a = b := by
  have h1 := rd_ev ha []
  rw [h, rd_ev hb []] at h1
  exact (congrArg Prod.fst h1).symm
/-- Are these bytes an event's? -/
def okE (l : List UInt8) : Bool := evB (rdEv (some l)).1 && (rdEv (some l)).2 == some [] && encEv (rdEv (some l)).1 == l
theorem okE_iff (l : List UInt8) : okE l = true ↔ ∃ e, evB e = true ∧ encEv e = l := by
  constructor
  · intro h
    unfold okE at h
    simp only [Bool.and_eq_true, beq_iff_eq] at h
    exact ⟨_, h.1.1, h.2⟩
  · rintro ⟨e, he, rfl⟩
    have := rd_ev he []
    rw [List.append_nil] at this
    unfold okE
    rw [this]
    simp [he]
theorem okE_ev {e : EvS} (h : evB e = true) : okE (encEv e) = true := (okE_iff _).2 ⟨e, h, rfl⟩

theorem encEv_len {e : EvS} (h : evB e = true) : (encEv e).length ≤ 1100 := by
  have h := (evB_iff e).1 h
  have hd := dataB_size h.data
  obtain ⟨h1, h2, h3, h4, h5, h6, h7, h8, h9, h10, h11⟩ := h
  have p1 := putL_len 4 e.id.toNat (by omega)
  have p2 := putL_len 4 e.kind.toNat (by omega)
  have p3 := putL_len 6 e.tick.toNat (by omega)
  have hr : e.ref ≤ 499 := by
    cases hc : (shapeL e.kind).contains 114
    · have := h5 hc; omega
    · have := h4 hc; omega
  have hs : e.step ≤ 15 := by
    cases hc : (shapeL e.kind).contains 115
    · have := h7 hc; omega
    · have := h6 hc; omega
  have ht : e.tryN ≤ 5 := by
    cases hc : (shapeL e.kind).contains 116
    · have := h9 hc; omega
    · have := h8 hc; omega
  have q1 := putL_len 4 e.ref.toNat (by omega)
  have q2 := putL_len 4 e.step.toNat (by omega)
  have q3 := putL_len 4 e.tryN.toNat (by omega)
  have q4 : (putL (if e.undo then 1 else 0)).length ≤ 5 := putL_len 4 _ (by split <;> omega)
  have q6 : (putL 0).length ≤ 5 := putL_len 4 0 (by omega)
  have q7 : (putL 1).length ≤ 5 := putL_len 4 1 (by omega)
  have q5 := putL_len 4 e.data.size (by omega)
  have e5 : e.data.data.toList.length = e.data.size := by simp
  have hk := shape_cases e.kind.toNat
  rw [show shapeN e.kind.toNat = shapeL e.kind from rfl] at hk
  unfold encEv headL
  generalize shapeL e.kind = f at hk ⊢
  rcases hk with rfl | rfl | rfl | rfl | rfl | rfl | rfl <;> simp [fldsL, fldL, textL, -Array.length_toList] <;> (try split) <;> omega

/-! Histories. -/
def textP (l : List UInt8) : List UInt8 := putL l.length ++ l
def encEvs (l : List EvS) : List UInt8 := l.flatMap fun e => textP (encEv e)
def encHist (l : List EvS) : List UInt8 := putL l.length ++ encEvs l
def histB (l : List EvS) : Bool := decide (l.length ≤ 500) && l.all evB
/-- So many events were read, all of them right. -/
def rdEvs (R : Option (List UInt8)) : Nat → List EvS × Option (List UInt8)
  | 0 => ([], R)
  | n + 1 => let a := rdEvs R n; let b := textS a.2; (a.1 ++ [(rdEv (some b.1)).1], b.2)
def rdHist (l : List UInt8) : List EvS × Option (List UInt8) := let a := intS 500 (some l); rdEvs a.2 a.1
theorem textP_read {t : List UInt8} (h : t.length ≤ 1048576) (r : List UInt8) : textS (some (textP t ++ r)) = (t, some r) := by
  unfold textP
  rw [List.append_assoc]
  exact text_read (Nat.lt_of_le_of_lt h (by decide)) r
theorem rd_evs : ∀ (l : List EvS) (hl : l.all evB = true) (r : List UInt8) (k : Nat), k ≤ l.length → rdEvs (some (encEvs l ++ r)) k = (l.take k, some (encEvs (l.drop k) ++ r))
  | l, hl, r, 0, _ => by simp [rdEvs]
  | l, hl, r, k + 1, hk => by
    have ih := rd_evs l hl r k (by omega)
    have hd : l.drop k = l[k] :: l.drop (k + 1) := List.drop_eq_getElem_cons (by omega)
    have hs : evB l[k] = true := List.all_eq_true.1 hl _ (List.getElem_mem _)
    have hn := encEv_len hs
    unfold rdEvs
    rw [ih, hd]
    have e : encEvs (l[k] :: l.drop (k + 1)) ++ r = textP (encEv l[k]) ++ (encEvs (l.drop (k + 1)) ++ r) := by unfold encEvs; rw [List.flatMap_cons, List.append_assoc]
    simp only
    have hr := rd_ev hs []
    rw [List.append_nil] at hr
    rw [e, textP_read (by omega), List.take_succ_eq_append_getElem (by omega), hr]
theorem rd_hist {l : List EvS} (h : histB l = true) : rdHist (encHist l) = (l, some []) := by
  unfold histB at h
  simp only [Bool.and_eq_true, decide_eq_true_eq] at h
  have hn9 : ∀ r, intS 500 (some (putL l.length ++ r)) = (l.length, some r) := intS_lit (m := 500) h.1 (by decide)
  unfold rdHist encHist
  rw [hn9]
  simp only
  have := rd_evs l h.2 [] l.length (Nat.le_refl _)
  rw [List.append_nil] at this
  rw [this]
  simp [encEvs]
theorem encHist_one {a b : List EvS} (ha : histB a = true) (hb : histB b = true) (h : encHist a = encHist b) : a = b := by
  have h1 := rd_hist ha
  rw [h, rd_hist hb] at h1
  exact (congrArg Prod.fst h1).symm
theorem encEvs_len : ∀ (l : List EvS), l.all evB = true → (encEvs l).length ≤ 1200 * l.length
  | [], _ => by simp [encEvs]
  | x :: r, h => by
    simp only [List.all_cons, Bool.and_eq_true] at h
    have h1 := encEv_len h.1
    have h2 := encEvs_len r h.2
    have h3 := putL_len 4 (encEv x).length (by omega)
    unfold encEvs textP at h2 ⊢
    rw [List.flatMap_cons, List.length_append, List.length_append, List.length_cons]
    omega
theorem encEvs_next {l : List EvS} {k : Nat} (h : k < l.length) : encEvs (l.take (k + 1)) = encEvs (l.take k) ++ textP (encEv l[k]) := by
  rw [List.take_succ_eq_append_getElem h]
  unfold encEvs
  rw [List.flatMap_append, List.flatMap_cons, List.flatMap_nil, List.append_nil]
end Go.Proofs.Ytlkfpeefjpmmfaa

/- Layer 13, plain facts: the program's own reading of an event: closer bounds, read backwards. -/
import Derived.Test.YthliofijioghkaaM13
import Derived.Test.YthliofijioghkaaM12p
namespace Go.Proofs.Ythliofijioghkaa
set_option linter.unusedVariables false

def rdFldV (x : EvS × Option (List UInt8)) (c : UInt8) : EvS × Option (List UInt8) :=
  if c = 114 then let a := intS (x.1.id - 1) x.2; ({ x.1 with ref := (a.1 : Int) }, a.2)
  else if c = 115 then let a := intS 15 x.2; ({ x.1 with step := (a.1 : Int) }, a.2)
  else if c = 116 then let a := intS 5 x.2; ({ x.1 with tryN := (a.1 : Int) }, a.2)
  else if c = 117 then let a := intS 1 x.2; ({ x.1 with undo := decide (a.1 = 1) }, a.2)
  else let a := textS x.2; ({ x.1 with data := ⟨a.1.toArray⟩ }, a.2)
def rdHeadV (R : Option (List UInt8)) : EvS × Option (List UInt8) :=
  let a := intS 500 R; let b := intS 18 a.2; let c := intS 1099511627776 b.2
  (⟨(a.1 : Int), (b.1 : Int), (c.1 : Int), 0, 0, 0, false, ⟨#[]⟩⟩, c.2)
def rdFldsV (x : EvS × Option (List UInt8)) (f : List UInt8) : EvS × Option (List UInt8) := f.foldl rdFldV x
def rdEvV (R : Option (List UInt8)) : EvS × Option (List UInt8) := rdFldsV (rdHeadV R) (shapeL (rdHeadV R).1.kind)

theorem rdV_ref {e x : EvS} (h1 : 0 ≤ e.ref) (h2 : e.ref ≤ x.id - 1) (h3 : x.id ≤ 1000) (r : List UInt8) : rdFldV (x, some (fldL e 114 ++ r)) 114 = ({ x with ref := e.ref }, some r) := by
  have : ∀ r, intS (x.id - 1) (some (putL e.ref.toNat ++ r)) = (e.ref.toNat, some r) := fun r => by
    have e2 : x.id - 1 = (((x.id - 1).toNat : Nat) : Int) := by omega
    rw [e2]
    exact intS_lit (by omega) (by omega) r
  have e1 : (e.ref.toNat : Int) = e.ref := by omega
  simp [rdFldV, fldL, this, e1]
theorem rdV_stepE {e x : EvS} (h1 : 0 ≤ e.step) (h2 : e.step ≤ 15) (r : List UInt8) : rdFldV (x, some (fldL e 115 ++ r)) 115 = ({ x with step := e.step }, some r) := by
  have : ∀ r, intS 15 (some (putL e.step.toNat ++ r)) = (e.step.toNat, some r) := intS_lit (m := 15) (by omega) (by decide)
  have e1 : (e.step.toNat : Int) = e.step := by omega
  simp [rdFldV, fldL, this, e1]
theorem rdV_try {e x : EvS} (h1 : 0 ≤ e.tryN) (h2 : e.tryN ≤ 5) (r : List UInt8) : rdFldV (x, some (fldL e 116 ++ r)) 116 = ({ x with tryN := e.tryN }, some r) := by
  have : ∀ r, intS 5 (some (putL e.tryN.toNat ++ r)) = (e.tryN.toNat, some r) := intS_lit (m := 5) (by omega) (by decide)
  have e1 : (e.tryN.toNat : Int) = e.tryN := by omega
  simp [rdFldV, fldL, this, e1]
theorem rdV_undo {e x : EvS} (r : List UInt8) : rdFldV (x, some (fldL e 117 ++ r)) 117 = ({ x with undo := e.undo }, some r) := by
  have h1 : ∀ r, intS 1 (some (putL 1 ++ r)) = (1, some r) := intS_lit (m := 1) (by omega) (by decide)
  have h0 : ∀ r, intS 1 (some (putL 0 ++ r)) = (0, some r) := intS_lit (m := 1) (by omega) (by decide)
  cases hu : e.undo <;> simp [rdFldV, fldL, h0, h1, hu]
theorem rdV_data {e x : EvS} (h : e.data.size ≤ 1048576) {c : UInt8} (hc : c = 112 ∨ c = 110) (r : List UInt8) : rdFldV (x, some (fldL e c ++ r)) c = ({ x with data := e.data }, some r) := by
  rcases hc with rfl | rfl <;> simp [rdFldV, fldL, textS_text h, ba_data]
theorem rdV_head {e : EvS} (h1 : 0 ≤ e.id) (h2 : e.id ≤ 500) (h3 : 0 ≤ e.kind) (h4 : e.kind ≤ 18) (h5 : 0 ≤ e.tick) (h6 : e.tick ≤ 1099511627776) (r : List UInt8) :
    rdHeadV (some (headL e ++ r)) = (⟨e.id, e.kind, e.tick, 0, 0, 0, false, ⟨#[]⟩⟩, some r) := by
  have a1 : ∀ r, intS 500 (some (putL e.id.toNat ++ r)) = (e.id.toNat, some r) := intS_lit (m := 500) (by omega) (by decide)
  have a2 : ∀ r, intS 18 (some (putL e.kind.toNat ++ r)) = (e.kind.toNat, some r) := intS_lit (m := 18) (by omega) (by decide)
  have a3 : ∀ r, intS 1099511627776 (some (putL e.tick.toNat ++ r)) = (e.tick.toNat, some r) := intS_lit (m := 1099511627776) (by omega) (by decide)
  have e1 : (e.id.toNat : Int) = e.id := by omega
  have e2 : (e.kind.toNat : Int) = e.kind := by omega
  have e3 : (e.tick.toNat : Int) = e.tick := by omega
  unfold rdHeadV headL
  simp only [List.append_assoc, a1, a2, a3, e1, e2, e3]
theorem rdV_ev {e : EvS} (h : evB e = true) (r : List UInt8) : rdEvV (some (encEv e ++ r)) = (e, some r) := by
  have h := (evB_iff e).1 h
  have hd := dataB_size h.data
  obtain ⟨h1, h2, h3, h4, h5, h6, h7, h8, h9, h10, h11⟩ := h
  unfold rdEvV encEv
  rw [List.append_assoc, rdV_head (by omega) (by omega) (by omega) (by omega) (by omega) (by omega)]
  simp only
  have hk := shape_cases e.kind.toNat
  rw [show shapeN e.kind.toNat = shapeL e.kind from rfl] at hk
  generalize shapeL e.kind = f at *
  obtain ⟨id, kind, tick, ref, step, tryN, undo, data⟩ := e
  simp only at *
  have hz : data.size = 0 → data = ⟨#[]⟩ := ba_zero
  rcases hk with rfl | rfl | rfl | rfl | rfl | rfl | rfl
  · have a1 := h5 rfl
    have a2 := h7 rfl
    have a3 := h9 rfl
    have a4 := h10 (by decide)
    subst a1 a2 a3 a4
    simp only [rdFldsV, fldsL, List.flatMap_cons, List.flatMap_nil, List.foldl, List.append_nil]
    rw [rdV_data (e := ⟨id, kind, tick, 0, 0, 0, false, data⟩) (by show data.size ≤ _; omega) (Or.inl rfl)]
  · have a0 := h4 rfl
    have a2 := h7 rfl
    have a3 := h9 rfl
    have a4 := h10 (by decide)
    have a5 : data = ⟨#[]⟩ := hz (by simpa [dataB] using h11)
    subst a2 a3 a4 a5
    simp only [rdFldsV, fldsL, List.flatMap_cons, List.flatMap_nil, List.foldl, List.append_nil]
    rw [rdV_ref (e := ⟨id, kind, tick, ref, 0, 0, false, ⟨#[]⟩⟩) (by show 0 ≤ ref; omega) (by show ref ≤ id - 1; omega) (by show id ≤ _; omega)]
  · have a1 := h5 rfl
    have a2 := h6 rfl
    have a3 := h9 rfl
    have a5 : data = ⟨#[]⟩ := hz (by simpa [dataB] using h11)
    subst a1 a3 a5
    simp only [rdFldsV, fldsL, List.flatMap_cons, List.flatMap_nil, List.foldl, List.append_nil, List.append_assoc]
    rw [rdV_stepE (e := ⟨id, kind, tick, 0, step, 0, undo, ⟨#[]⟩⟩) (by show 0 ≤ step; omega) (by show step ≤ _; omega)]
    rw [rdV_undo (e := ⟨id, kind, tick, 0, step, 0, undo, ⟨#[]⟩⟩)]
  · have a1 := h4 rfl
    have a2 := h7 rfl
    have a3 := h8 rfl
    have a4 := h10 (by decide)
    have a5 : data = ⟨#[]⟩ := hz (by simpa [dataB] using h11)
    subst a2 a4 a5
    simp only [rdFldsV, fldsL, List.flatMap_cons, List.flatMap_nil, List.foldl, List.append_nil, List.append_assoc]
    rw [rdV_ref (e := ⟨id, kind, tick, ref, 0, tryN, false, ⟨#[]⟩⟩) (by show 0 ≤ ref; omega) (by show ref ≤ id - 1; omega) (by show id ≤ _; omega)]
    rw [rdV_try (e := ⟨id, kind, tick, ref, 0, tryN, false, ⟨#[]⟩⟩) (by show 0 ≤ tryN; omega) (by show tryN ≤ _; omega)]
  · have a1 := h5 rfl
    have a2 := h6 rfl
    have a3 := h9 rfl
    have a4 := h10 (by decide)
    have a5 : data = ⟨#[]⟩ := hz (by simpa [dataB] using h11)
    subst a1 a3 a4 a5
    simp only [rdFldsV, fldsL, List.flatMap_cons, List.flatMap_nil, List.foldl, List.append_nil]
    rw [rdV_stepE (e := ⟨id, kind, tick, 0, step, 0, false, ⟨#[]⟩⟩) (by show 0 ≤ step; omega) (by show step ≤ _; omega)]
  · have a1 := h5 rfl
    have a2 := h7 rfl
    have a3 := h9 rfl
    have a4 := h10 (by decide)
    subst a1 a2 a3 a4
    simp only [rdFldsV, fldsL, List.flatMap_cons, List.flatMap_nil, List.foldl, List.append_nil]
    rw [rdV_data (e := ⟨id, kind, tick, 0, 0, 0, false, data⟩) (by show data.size ≤ _; omega) (Or.inr rfl)]
  · have a1 := h5 rfl
    have a2 := h7 rfl
    have a3 := h9 rfl
    have a4 := h10 (by decide)
    have a5 : data = ⟨#[]⟩ := hz (by simpa [dataB] using h11)
    subst a1 a2 a3 a4 a5
    simp [rdFldsV, fldsL]
theorem undo_byte (R : Option (List UInt8)) : (if (intS 1 R).1 = 1 then 1 else 0) = (intS 1 R).1 := by
  have : (intS 1 R).1 ≤ 1 := numS_le 1 R
  split <;> omega
/-- Where all was read, these bytes stood there. -/
theorem rdV_evInv {l r : List UInt8} (h : (rdEvV (some l)).2 = some r) : l = encEv (rdEvV (some l)).1 ++ r := by
  have key : some l = some (encEv (rdEvV (some l)).1 ++ r) := by
    obtain ⟨n1, hn1⟩ : ∃ n, (intS 500 (some l)).1 = n := ⟨_, rfl⟩
    obtain ⟨R1, hR1⟩ : ∃ R, (intS 500 (some l)).2 = R := ⟨_, rfl⟩
    obtain ⟨n2, hn2⟩ : ∃ n, (intS 18 R1).1 = n := ⟨_, rfl⟩
    obtain ⟨R2, hR2⟩ : ∃ R, (intS 18 R1).2 = R := ⟨_, rfl⟩
    obtain ⟨n3, hn3⟩ : ∃ n, (intS 1099511627776 R2).1 = n := ⟨_, rfl⟩
    obtain ⟨R3, hR3⟩ : ∃ R, (intS 1099511627776 R2).2 = R := ⟨_, rfl⟩
    have hh : rdHeadV (some l) = (⟨(n1 : Int), (n2 : Int), (n3 : Int), 0, 0, 0, false, ⟨#[]⟩⟩, R3) := by
      unfold rdHeadV
      simp only [hn1, hR1, hn2, hR2, hn3, hR3]
    have back : ∀ q, R3 = some q → some l = some (putL n1 ++ (putL n2 ++ (putL n3 ++ q))) := fun q e => by
      have e3 := int_some (m := 1099511627776) (R := R2) (hR3.trans e)
      rw [hn3] at e3
      have e2 := int_some (m := 18) (R := R1) (hR2.trans e3)
      rw [hn2] at e2
      have e1 := int_some (m := 500) (R := some l) (hR1.trans e2)
      rw [hn1] at e1
      exact e1
    unfold rdEvV at h ⊢
    rw [hh] at h ⊢
    simp only at h ⊢
    clear hh hR1 hR2 hR3 hn1 hn2 hn3
    have hk := shape_cases n2
    rw [show shapeN n2 = shapeL (n2 : Int) from rfl] at hk
    rcases hk with hf | hf | hf | hf | hf | hf | hf
    · rw [hf] at h ⊢
      simp only [rdFldsV, List.foldl, rdFldV] at h ⊢
      simp only [show ¬ (112 : UInt8) = 114 by decide, show ¬ (112 : UInt8) = 115 by decide, show ¬ (112 : UInt8) = 116 by decide, show ¬ (112 : UInt8) = 117 by decide, if_false] at h ⊢
      rw [back _ (text_some h)]
      unfold encEv headL fldsL
      simp [hf, fldL]
    · rw [hf] at h ⊢
      simp only [rdFldsV, List.foldl, rdFldV, if_true] at h ⊢
      rw [back _ (int_some h)]
      unfold encEv headL fldsL
      simp [hf, fldL]
    · rw [hf] at h ⊢
      simp only [rdFldsV, List.foldl, rdFldV, show ¬ (115 : UInt8) = 114 by decide, show ¬ (117 : UInt8) = 114 by decide, show ¬ (117 : UInt8) = 115 by decide, show ¬ (117 : UInt8) = 116 by decide, if_true, if_false] at h ⊢
      rw [back _ (int_some (int_some h))]
      unfold encEv headL fldsL
      have hu := undo_byte (intS 15 R3).2
      generalize (intS 1 (intS 15 R3).2).1 = u at *
      simp only [hf]
      simp only [List.flatMap_cons, List.flatMap_nil, fldL]
      simp [hu]
    · rw [hf] at h ⊢
      simp only [rdFldsV, List.foldl, rdFldV, show ¬ (116 : UInt8) = 114 by decide, show ¬ (116 : UInt8) = 115 by decide, if_true, if_false] at h ⊢
      rw [back _ (int_some (int_some h))]
      unfold encEv headL fldsL
      simp [hf, fldL]
    · rw [hf] at h ⊢
      simp only [rdFldsV, List.foldl, rdFldV, show ¬ (115 : UInt8) = 114 by decide, if_true, if_false] at h ⊢
      rw [back _ (int_some h)]
      unfold encEv headL fldsL
      simp [hf, fldL]
    · rw [hf] at h ⊢
      simp only [rdFldsV, List.foldl, rdFldV] at h ⊢
      simp only [show ¬ (110 : UInt8) = 114 by decide, show ¬ (110 : UInt8) = 115 by decide, show ¬ (110 : UInt8) = 116 by decide, show ¬ (110 : UInt8) = 117 by decide, if_false] at h ⊢
      rw [back _ (text_some h)]
      unfold encEv headL fldsL
      simp [hf, fldL]
    · rw [hf] at h ⊢
      simp only [rdFldsV, List.foldl] at h ⊢
      rw [back _ h]
      unfold encEv headL fldsL
      simp [hf]
  exact Option.some.inj key
/-- The program's reading tells what the reference's does. -/
theorem okE_yes {l : List UInt8} (hp : evB (rdEvV (some l)).1 = true) (he : (rdEvV (some l)).2 = some []) : okE l = true ∧ (rdEv (some l)).1 = (rdEvV (some l)).1 := by
  have hl := rdV_evInv he
  rw [List.append_nil] at hl
  have h1 : okE l = true := (okE_iff l).2 ⟨_, hp, hl.symm⟩
  refine ⟨h1, ?_⟩
  have h2 := rd_ev hp []
  rw [List.append_nil, ← hl] at h2
  rw [h2]
theorem okE_no {l : List UInt8} (h : ¬ (evB (rdEvV (some l)).1 = true ∧ (rdEvV (some l)).2 = some [])) : okE l = false := by
  cases ho : okE l with
  | false => rfl
  | true =>
    obtain ⟨e, h1, h2⟩ := (okE_iff l).1 ho
    exfalso
    apply h
    have h3 := rdV_ev h1 []
    rw [List.append_nil, h2] at h3
    rw [h3]
    exact ⟨h1, rfl⟩
end Go.Proofs.Ythliofijioghkaa

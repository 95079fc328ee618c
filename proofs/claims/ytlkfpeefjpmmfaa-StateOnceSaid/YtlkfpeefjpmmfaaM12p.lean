/- Layer 12, plain facts: what the program's own reading gives (its numbers' bounds are closer than the document's own reading has them), and that the same bytes are a program's. -/
import Derived.Test.YtlkfpeefjpmmfaaM12
import Derived.Test.YtlkfpeefjpmmfaaJ02
namespace Go.Proofs.Ytlkfpeefjpmmfaa
set_option linter.unusedVariables false

def rdStepV (R : Option (List UInt8)) : StepS × Option (List UInt8) :=
  let k := intS 3 R
  if k.1 = 1 then
    let a := textS k.2; let b := intS 5 a.2; let c := textS b.2; let d := intS 5 c.2
    (⟨(k.1 : Int), ⟨a.1.toArray⟩, ⟨c.1.toArray⟩, (b.1 : Int), (d.1 : Int), 0⟩, d.2)
  else if k.1 = 2 then let a := intS 1000 k.2; (⟨(k.1 : Int), ⟨#[]⟩, ⟨#[]⟩, 0, 0, (a.1 : Int)⟩, a.2)
  else if k.1 = 3 then let a := textS k.2; (⟨(k.1 : Int), ⟨a.1.toArray⟩, ⟨#[]⟩, 0, 0, 0⟩, a.2)
  else (⟨(k.1 : Int), ⟨#[]⟩, ⟨#[]⟩, 0, 0, 0⟩, k.2)
def rdStepsV (R : Option (List UInt8)) : Nat → List StepS × Option (List UInt8)
  | 0 => ([], R)
  | n + 1 => let a := rdStepsV R n; let b := rdStepV a.2; (a.1 ++ [b.1], b.2)
def rdProgV (l : List UInt8) : ProgS × Option (List UInt8) :=
  let a := intS 16000 (some l); let b := intS 16 a.2; let c := rdStepsV b.2 b.1
  (⟨c.1, (a.1 : Int)⟩, c.2)
theorem rdStepsV_len (R : Option (List UInt8)) : ∀ n, (rdStepsV R n).1.length = n
  | 0 => rfl
  | n + 1 => by
    have := rdStepsV_len R n
    simp [rdStepsV, this]
theorem rdV_one {R : Option (List UInt8)} (h : (intS 3 R).1 = 1) : rdStepV R = (⟨1, ⟨(textS (intS 3 R).2).1.toArray⟩, ⟨(textS (intS 5 (textS (intS 3 R).2).2).2).1.toArray⟩, ((intS 5 (textS (intS 3 R).2).2).1 : Int), ((intS 5 (textS (intS 5 (textS (intS 3 R).2).2).2).2).1 : Int), 0⟩, (intS 5 (textS (intS 5 (textS (intS 3 R).2).2).2).2).2) := by
  unfold rdStepV
  simp only [h, if_true]
  rfl
theorem rdV_two {R : Option (List UInt8)} (h : (intS 3 R).1 = 2) : rdStepV R = (⟨2, ⟨#[]⟩, ⟨#[]⟩, 0, 0, ((intS 1000 (intS 3 R).2).1 : Int)⟩, (intS 1000 (intS 3 R).2).2) := by
  unfold rdStepV
  simp only [h, show ¬ (2 : Nat) = 1 by omega, if_true, if_false]
  rfl
theorem rdV_three {R : Option (List UInt8)} (h : (intS 3 R).1 = 3) : rdStepV R = (⟨3, ⟨(textS (intS 3 R).2).1.toArray⟩, ⟨#[]⟩, 0, 0, 0⟩, (textS (intS 3 R).2).2) := by
  unfold rdStepV
  simp only [h, show ¬ (3 : Nat) = 1 by omega, show ¬ (3 : Nat) = 2 by omega, if_true, if_false]
  rfl
theorem rdV_else {R : Option (List UInt8)} (h1 : ¬ (intS 3 R).1 = 1) (h2 : ¬ (intS 3 R).1 = 2) (h3 : ¬ (intS 3 R).1 = 3) : rdStepV R = (⟨((intS 3 R).1 : Int), ⟨#[]⟩, ⟨#[]⟩, 0, 0, 0⟩, (intS 3 R).2) := by
  unfold rdStepV
  simp only [h1, h2, h3, if_false]
theorem rdV_step {x : StepS} (h : stepB x = true) (r : List UInt8) : rdStepV (some (encStep x ++ r)) = (x, some r) := by
  obtain ⟨kind, name, undo, tries, undoTries, wait⟩ := x
  unfold stepB at h
  simp only at h
  have hi := fun (n m : Nat) (h : n ≤ m) (hm : m < 18446744073709551616) (r : List UInt8) => intS_put h hm r
  have h3 : ∀ {n : Nat} (_ : n ≤ 3) (r : List UInt8), intS 3 (some (putL n ++ r)) = (n, some r) := fun h r => hi _ 3 h (by decide) r
  have h5 : ∀ {n : Nat} (_ : n ≤ 5) (r : List UInt8), intS 5 (some (putL n ++ r)) = (n, some r) := fun h r => hi _ 5 h (by decide) r
  split at h
  · rename_i hk
    subst hk
    unfold undoB at h
    simp only [Bool.and_eq_true, decide_eq_true_eq, inB_iff] at h
    obtain ⟨hu, ⟨hn, ht1, ht2⟩, hw⟩ := h
    have hns := name_size hn
    have hus : undo.size ≤ 1048576 ∧ 0 ≤ undoTries ∧ undoTries ≤ 5 := by
      split at hu
      · rename_i h0
        simp only [decide_eq_true_eq] at hu
        omega
      · simp only [Bool.and_eq_true, inB_iff] at hu
        have := name_size hu.1
        omega
    have e1 : (tries.toNat : Int) = tries := by omega
    have e2 : (undoTries.toNat : Int) = undoTries := by omega
    have e3 : encStep ⟨1, name, undo, tries, undoTries, wait⟩ ++ r = putL 1 ++ (textL name ++ (putL tries.toNat ++ (textL undo ++ (putL undoTries.toNat ++ r)))) := by
      simp [encStep]
    rw [e3]
    unfold rdStepV
    rw [h3 (by omega)]
    simp only [if_true]
    rw [textS_text (by omega)]
    simp only
    rw [h5 (by omega)]
    simp only
    rw [textS_text hus.1]
    simp only
    rw [h5 (by omega)]
    simp only [e1, e2, ba_data]
    subst hw
    rfl
  · split at h
    · rename_i hk
      subst hk
      simp only [Bool.and_eq_true, decide_eq_true_eq, inB_iff] at h
      obtain ⟨⟨⟨⟨h1, h2⟩, h3'⟩, h4⟩, h5', h6⟩ := h
      have e1 : (wait.toNat : Int) = wait := by omega
      have e3 : encStep ⟨2, name, undo, tries, undoTries, wait⟩ ++ r = putL 2 ++ (putL wait.toNat ++ r) := by
        simp [encStep]
      rw [e3]
      unfold rdStepV
      rw [h3 (by omega)]
      simp only [show ¬ (2 : Nat) = 1 by omega, if_false, if_true]
      have hw9 : intS 1000 (some (putL wait.toNat ++ r)) = (wait.toNat, some r) := hi _ 1000 (by omega) (by decide) r
      rw [hw9]
      simp only [e1]
      rw [ba_zero h1, ba_zero h2, h3', h4]
      rfl
    · split at h
      · rename_i hk
        subst hk
        simp only [Bool.and_eq_true, decide_eq_true_eq] at h
        obtain ⟨⟨⟨⟨h1, h2⟩, h3'⟩, h4⟩, h5'⟩ := h
        have hns := name_size h1
        have e3 : encStep ⟨3, name, undo, tries, undoTries, wait⟩ ++ r = putL 3 ++ (textL name ++ r) := by
          simp [encStep]
        rw [e3]
        unfold rdStepV
        rw [h3 (by omega)]
        simp only [show ¬ (3 : Nat) = 1 by omega, show ¬ (3 : Nat) = 2 by omega, if_false, if_true]
        rw [textS_text (by omega)]
        simp only [ba_data]
        rw [ba_zero h2, h3', h4, h5']
        rfl
      · cases h
theorem textS_nil : textS none = ([], none) := rfl
/-- A number that was read, whatever stood there: where more was read behind it, its bytes stood there. -/
theorem int_some {m : Int} {R : Option (List UInt8)} {q : List UInt8} (h : (intS m R).2 = some q) : R = some (putL (intS m R).1 ++ q) := by
  cases R with
  | none => rw [int_none] at h; cases h
  | some l =>
    have h2 : intS m (some l) = ((intS m (some l)).1, some q) := Prod.ext rfl h
    exact congrArg some (int_inv h2).2.2
theorem text_some {R : Option (List UInt8)} {q : List UInt8} (h : (textS R).2 = some q) : R = some (textL ⟨(textS R).1.toArray⟩ ++ q) := by
  cases R with
  | none => cases h
  | some l =>
    have h2 : textS (some l) = ((textS (some l)).1, some q) := Prod.ext rfl h
    have h3 := (text_inv h2).2
    have h4 : textL ⟨(textS (some l)).1.toArray⟩ = putL (textS (some l)).1.length ++ (textS (some l)).1 := rfl
    rw [h4, List.append_assoc]
    exact congrArg some h3
theorem rdV_inv {R : Option (List UInt8)} {r : List UInt8} (hs : stepB (rdStepV R).1 = true) (hr : (rdStepV R).2 = some r) : R = some (encStep (rdStepV R).1 ++ r) := by
  by_cases h1 : (intS 3 R).1 = 1
  · have e := rdV_one h1
    rw [e] at hr ⊢
    clear e hs
    simp only at hr
    have q5 := int_some hr
    have q4 := text_some q5
    have q3 := int_some q4
    have q2 := text_some q3
    have q1 := int_some q2
    rw [h1] at q1
    refine q1.trans (congrArg some ?_)
    simp only [encStep, if_true, Int.toNat_natCast, List.append_assoc]
    rfl
  · by_cases h2 : (intS 3 R).1 = 2
    · have e := rdV_two h2
      rw [e] at hr ⊢
      clear e hs
      simp only at hr
      have q2 := int_some hr
      have q1 := int_some q2
      rw [h2] at q1
      refine q1.trans (congrArg some ?_)
      simp only [encStep, show ¬ (2 : Int) = 1 by omega, if_true, if_false, Int.toNat_natCast, List.append_assoc]
      rfl
    · by_cases h3 : (intS 3 R).1 = 3
      · have e := rdV_three h3
        rw [e] at hr ⊢
        clear e hs
        simp only at hr
        have q2 := text_some hr
        have q1 := int_some q2
        rw [h3] at q1
        refine q1.trans (congrArg some ?_)
        simp only [encStep, show ¬ (3 : Int) = 1 by omega, show ¬ (3 : Int) = 2 by omega, if_false, List.append_assoc]
        rfl
      · have e := rdV_else h1 h2 h3
        rw [e] at hs
        exfalso
        unfold stepB at hs
        simp only at hs
        have a1 : ¬ (((intS 3 R).1 : Nat) : Int) = 1 := by omega
        have a2 : ¬ (((intS 3 R).1 : Nat) : Int) = 2 := by omega
        have a3 : ¬ (((intS 3 R).1 : Nat) : Int) = 3 := by omega
        rw [if_neg a1, if_neg a2, if_neg a3] at hs
        cases hs
theorem rdV_stepsInv (R : Option (List UInt8)) : ∀ (n : Nat) (r : List UInt8), (rdStepsV R n).1.all stepB = true → (rdStepsV R n).2 = some r → R = some (encSteps (rdStepsV R n).1 ++ r)
  | 0, r, _, hr => by simpa [rdStepsV, encSteps] using hr
  | n + 1, r, ha, hr => by
    have e : rdStepsV R (n + 1) = ((rdStepsV R n).1 ++ [(rdStepV (rdStepsV R n).2).1], (rdStepV (rdStepsV R n).2).2) := rfl
    rw [e] at ha hr ⊢
    simp only [List.all_append, List.all_cons, List.all_nil, Bool.and_true, Bool.and_eq_true] at ha
    have h1 := rdV_inv ha.2 hr
    have h2 := rdV_stepsInv R n _ ha.1 h1
    refine h2.trans (congrArg some ?_)
    simp only [encSteps, List.flatMap_append, List.flatMap_cons, List.flatMap_nil, List.append_nil, List.append_assoc]
theorem rdV_steps : ∀ (l : List StepS) (hl : l.all stepB = true) (r : List UInt8) (k : Nat), k ≤ l.length → rdStepsV (some (encSteps l ++ r)) k = (l.take k, some (encSteps (l.drop k) ++ r))
  | l, hl, r, 0, _ => by simp [rdStepsV]
  | l, hl, r, k + 1, hk => by
    have ih := rdV_steps l hl r k (by omega)
    have hd : l.drop k = l[k] :: l.drop (k + 1) := List.drop_eq_getElem_cons (by omega)
    have hs : stepB l[k] = true := List.all_eq_true.1 hl _ (List.getElem_mem _)
    unfold rdStepsV
    rw [ih, hd]
    have e : encSteps (l[k] :: l.drop (k + 1)) ++ r = encStep l[k] ++ (encSteps (l.drop (k + 1)) ++ r) := by unfold encSteps; rw [List.flatMap_cons, List.append_assoc]
    simp only
    rw [e, rdV_step hs, List.take_succ_eq_append_getElem (by omega)]
theorem rdV_prog {p : ProgS} (h : progB p = true) : rdProgV (encProg p) = (p, some []) := by
  obtain ⟨l, lim⟩ := p
  unfold progB at h
  simp only [Bool.and_eq_true, decide_eq_true_eq, inB_iff] at h
  obtain ⟨⟨h1, h2, h3⟩, h4⟩ := h
  unfold rdProgV encProg
  simp only
  have e1 : (lim.toNat : Int) = lim := by omega
  rw [List.append_assoc]
  have hi := fun (n m : Nat) (h : n ≤ m) (hm : m < 18446744073709551616) (r : List UInt8) => intS_put h hm r
  have hl9 : ∀ r, intS 16000 (some (putL lim.toNat ++ r)) = (lim.toNat, some r) := hi _ 16000 (by omega) (by decide)
  have hn9 : ∀ r, intS 16 (some (putL l.length ++ r)) = (l.length, some r) := hi _ 16 h1 (by decide)
  rw [hl9]
  simp only
  rw [hn9]
  simp only
  have := rdV_steps l h4 [] l.length (Nat.le_refl _)
  rw [List.append_nil] at this
  rw [this, e1]
  simp [encSteps]
/-- What the program takes is what the document takes. -/
theorem okV {l : List UInt8} (hp : progB (rdProgV l).1 = true) (he : (rdProgV l).2 = some []) : okB l = true ∧ (rdProg l).1 = (rdProgV l).1 := by
  have hx : encProg (rdProgV l).1 = l := by
    have hst : ((rdProgV l).1.steps).all stepB = true := by
      have h := hp
      unfold progB at h
      simp only [Bool.and_eq_true] at h
      exact h.2
    have h3 := rdV_stepsInv (intS 16 (intS 16000 (some l)).2).2 (intS 16 (intS 16000 (some l)).2).1 [] hst he
    have h2 := int_some h3
    have h1 := int_some h2
    injection h1 with h1
    refine Eq.trans ?_ h1.symm
    have e : rdProgV l = (⟨(rdStepsV (intS 16 (intS 16000 (some l)).2).2 (intS 16 (intS 16000 (some l)).2).1).1, ((intS 16000 (some l)).1 : Int)⟩, (rdStepsV (intS 16 (intS 16000 (some l)).2).2 (intS 16 (intS 16000 (some l)).2).1).2) := rfl
    rw [e]
    unfold encProg
    simp only [rdStepsV_len, Int.toNat_natCast, List.append_nil, List.append_assoc]
  exact ⟨(okB_iff _).2 ⟨_, hp, hx⟩, (rd_is hp hx).1⟩
theorem noV {l : List UInt8} (h : ¬ (progB (rdProgV l).1 = true ∧ (rdProgV l).2 = some [])) : okB l = false := by
  cases ho : okB l with
  | false => rfl
  | true =>
    exfalso
    obtain ⟨p, hp, rfl⟩ := (okB_iff _).1 ho
    rw [rdV_prog hp] at h
    exact h ⟨hp, rfl⟩
end Go.Proofs.Ytlkfpeefjpmmfaa

/- Layer 12, plain facts: names, steps, programs; their bytes, there and back. -/
import Derived.Test.YtlkfpeefjpmmfaaJ02
namespace Go.Proofs.Ytlkfpeefjpmmfaa
set_option linter.unusedVariables false

structure StepS where
  kind : Int
  name : ByteArray
  undo : ByteArray
  tries : Int
  undoTries : Int
  wait : Int
deriving DecidableEq
structure ProgS where
  steps : List StepS
  limit : Int
def byteB (c : UInt8) : Bool := decide (33 ≤ c.toNat) && decide (c.toNat ≤ 126)
def nameB (s : ByteArray) : Bool := s.data.toList.all byteB && (decide (1 ≤ s.size) && decide (s.size ≤ 16))
def inB (n low high : Int) : Bool := decide (low ≤ n) && decide (n ≤ high)
def undoB (x : StepS) : Bool := if x.undo.size = 0 then decide (x.undoTries = 0) else nameB x.undo && inB x.undoTries 1 5
def stepB (x : StepS) : Bool :=
  if x.kind = 1 then undoB x && (nameB x.name && inB x.tries 1 5 && decide (x.wait = 0))
  else if x.kind = 2 then decide (x.name.size = 0) && decide (x.undo.size = 0) && decide (x.tries = 0) && decide (x.undoTries = 0) && inB x.wait 1 1000
  else if x.kind = 3 then nameB x.name && decide (x.undo.size = 0) && decide (x.tries = 0) && decide (x.undoTries = 0) && decide (x.wait = 0)
  else false
def progB (p : ProgS) : Bool := decide (p.steps.length ≤ 16) && inB p.limit 0 16000 && p.steps.all stepB

theorem ba_zero {s : ByteArray} (h : s.size = 0) : s = ⟨#[]⟩ := by
  obtain ⟨d⟩ := s
  have : d.size = 0 := h
  rw [Array.size_eq_zero_iff.1 this]
theorem name_size {s : ByteArray} (h : nameB s = true) : 1 ≤ s.size ∧ s.size ≤ 16 := by
  unfold nameB at h
  simp only [Bool.and_eq_true, decide_eq_true_eq] at h
  exact h.2
theorem inB_iff {n low high : Int} : inB n low high = true ↔ low ≤ n ∧ n ≤ high := by simp [inB]

def textL (s : ByteArray) : List UInt8 := putL s.size ++ s.data.toList
def encStep (x : StepS) : List UInt8 :=
  putL x.kind.toNat ++ (if x.kind = 1 then textL x.name ++ putL x.tries.toNat ++ textL x.undo ++ putL x.undoTries.toNat else if x.kind = 2 then putL x.wait.toNat else textL x.name)
def encSteps (l : List StepS) : List UInt8 := l.flatMap encStep
def encProg (p : ProgS) : List UInt8 := putL p.limit.toNat ++ putL p.steps.length ++ encSteps p.steps

/-- What a step's reading gives. -/
def rdStep (R : Option (List UInt8)) : StepS × Option (List UInt8) :=
  let k := intS 9 R
  if k.1 = 1 then
    let a := textS k.2; let b := intS 9 a.2; let c := textS b.2; let d := intS 9 c.2
    (⟨(k.1 : Int), ⟨a.1.toArray⟩, ⟨c.1.toArray⟩, (b.1 : Int), (d.1 : Int), 0⟩, d.2)
  else if k.1 = 2 then let a := intS 9999 k.2; (⟨(k.1 : Int), ⟨#[]⟩, ⟨#[]⟩, 0, 0, (a.1 : Int)⟩, a.2)
  else let a := textS k.2; (⟨(k.1 : Int), ⟨a.1.toArray⟩, ⟨#[]⟩, 0, 0, 0⟩, a.2)
/-- .. of so many steps. -/
def rdSteps (R : Option (List UInt8)) : Nat → List StepS × Option (List UInt8)
  | 0 => ([], R)
  | n + 1 => let a := rdSteps R n; let b := rdStep a.2; (a.1 ++ [b.1], b.2)
def rdProg (l : List UInt8) : ProgS × Option (List UInt8) :=
  let a := intS 1073741824 (some l); let b := intS 16 a.2; let c := rdSteps b.2 b.1
  (⟨c.1, (a.1 : Int)⟩, c.2)
theorem rdSteps_len (R : Option (List UInt8)) : ∀ n, (rdSteps R n).1.length = n
  | 0 => rfl
  | n + 1 => by
    have := rdSteps_len R n
    simp [rdSteps, this]

theorem numS_put8 {n m : Nat} (h : n ≤ m) (h2 : U64 n) (r : List UInt8) : numS m (some (putL n ++ r)) = (n, some r) := by
  rw [numS_hit (getL_of_put h2 r) h]
  simp
theorem intS_put {n : Nat} {m : Nat} (h : n ≤ m) (hm : m < 18446744073709551616) (r : List UInt8) : intS (m : Int) (some (putL n ++ r)) = (n, some r) := by
  rw [intS_pos]
  exact numS_put8 h (Nat.lt_of_le_of_lt h hm) r
theorem textS_text {s : ByteArray} (h : s.size ≤ 1048576) (r : List UInt8) : textS (some (textL s ++ r)) = (s.data.toList, some r) := by
  unfold textL
  rw [List.append_assoc]
  exact textS_put (show U64 s.size from Nat.lt_of_le_of_lt h (by decide)) r
theorem ba_data (s : ByteArray) : (⟨s.data.toList.toArray⟩ : ByteArray) = s := by congr 1
theorem rd_step {x : StepS} (h : stepB x = true) (r : List UInt8) : rdStep (some (encStep x ++ r)) = (x, some r) := by
  obtain ⟨kind, name, undo, tries, undoTries, wait⟩ := x
  unfold stepB at h
  simp only at h
  have hi := fun (n m : Nat) (h : n ≤ m) (hm : m < 18446744073709551616) (r : List UInt8) => intS_put h hm r
  have h9 : ∀ {n : Nat} (_ : n ≤ 9) (r : List UInt8), intS 9 (some (putL n ++ r)) = (n, some r) := fun h r => hi _ 9 h (by decide) r
  split at h
  · rename_i hk
    subst hk
    unfold undoB at h
    simp only [Bool.and_eq_true, decide_eq_true_eq, inB_iff] at h
    obtain ⟨hu, ⟨hn, ht1, ht2⟩, hw⟩ := h
    have hns := name_size hn
    have hus : undo.size ≤ 1048576 ∧ 0 ≤ undoTries ∧ undoTries ≤ 5 := by
      split at hu
      · rename_i h0
        simp only [decide_eq_true_eq] at hu
        omega
      · simp only [Bool.and_eq_true, inB_iff] at hu
        have := name_size hu.1
        omega
    have e1 : (tries.toNat : Int) = tries := by omega
    have e2 : (undoTries.toNat : Int) = undoTries := by omega
    have e3 : encStep ⟨1, name, undo, tries, undoTries, wait⟩ ++ r = putL 1 ++ (textL name ++ (putL tries.toNat ++ (textL undo ++ (putL undoTries.toNat ++ r)))) := by
      simp [encStep]
    rw [e3]
    unfold rdStep
    rw [h9 (by omega)]
    simp only [if_true]
    rw [textS_text (by omega)]
    simp only
    rw [h9 (by omega)]
    simp only
    rw [textS_text hus.1]
    simp only
    rw [h9 (by omega)]
    simp only [e1, e2, ba_data]
    subst hw
    rfl
  · split at h
    · rename_i hk
      subst hk
      simp only [Bool.and_eq_true, decide_eq_true_eq, inB_iff] at h
      obtain ⟨⟨⟨⟨h1, h2⟩, h3⟩, h4⟩, h5, h6⟩ := h
      have e1 : (wait.toNat : Int) = wait := by omega
      have e3 : encStep ⟨2, name, undo, tries, undoTries, wait⟩ ++ r = putL 2 ++ (putL wait.toNat ++ r) := by
        simp [encStep]
      rw [e3]
      unfold rdStep
      rw [h9 (by omega)]
      simp only [show ¬ (2 : Nat) = 1 by omega, if_false, if_true]
      have hw9 : intS 9999 (some (putL wait.toNat ++ r)) = (wait.toNat, some r) := hi _ 9999 (by omega) (by decide) r
      rw [hw9]
      simp only [e1]
      rw [ba_zero h1, ba_zero h2, h3, h4]
      rfl
    · split at h
      · rename_i hk
        subst hk
        simp only [Bool.and_eq_true, decide_eq_true_eq] at h
        obtain ⟨⟨⟨⟨h1, h2⟩, h3⟩, h4⟩, h5⟩ := h
        have hns := name_size h1
        have e3 : encStep ⟨3, name, undo, tries, undoTries, wait⟩ ++ r = putL 3 ++ (textL name ++ r) := by
          simp [encStep]
        rw [e3]
        unfold rdStep
        rw [h9 (by omega)]
        simp only [show ¬ (3 : Nat) = 1 by omega, show ¬ (3 : Nat) = 2 by omega, if_false]
        rw [textS_text (by omega)]
        simp only [ba_data]
        rw [ba_zero h2, h3, h4, h5]
        rfl
      · cases h
theorem rd_steps : ∀ (l : List StepS) (hl : l.all stepB = true) (r : List UInt8) (k : Nat), k ≤ l.length → rdSteps (some (encSteps l ++ r)) k = (l.take k, some (encSteps (l.drop k) ++ r))
  | l, hl, r, 0, _ => by simp [rdSteps]
  | l, hl, r, k + 1, hk => by
    have ih := rd_steps l hl r k (by omega)
    have hd : l.drop k = l[k] :: l.drop (k + 1) := List.drop_eq_getElem_cons (by omega)
    have hs : stepB l[k] = true := List.all_eq_true.1 hl _ (List.getElem_mem _)
    unfold rdSteps
    rw [ih, hd]
    have e : encSteps (l[k] :: l.drop (k + 1)) ++ r = encStep l[k] ++ (encSteps (l.drop (k + 1)) ++ r) := by unfold encSteps; rw [List.flatMap_cons, List.append_assoc]
    simp only
    rw [e, rd_step hs, List.take_succ_eq_append_getElem (by omega)]
theorem rd_prog {p : ProgS} (h : progB p = true) : rdProg (encProg p) = (p, some []) := by
  obtain ⟨l, lim⟩ := p
  unfold progB at h
  simp only [Bool.and_eq_true, decide_eq_true_eq, inB_iff] at h
  obtain ⟨⟨h1, h2, h3⟩, h4⟩ := h
  unfold rdProg encProg
  simp only
  have e1 : (lim.toNat : Int) = lim := by omega
  rw [List.append_assoc]
  have hi := fun (n m : Nat) (h : n ≤ m) (hm : m < 18446744073709551616) (r : List UInt8) => intS_put h hm r
  have hl9 : ∀ r, intS 1073741824 (some (putL lim.toNat ++ r)) = (lim.toNat, some r) := hi _ 1073741824 (by omega) (by decide)
  have hn9 : ∀ r, intS 16 (some (putL l.length ++ r)) = (l.length, some r) := hi _ 16 h1 (by decide)
  rw [hl9]
  simp only
  rw [hn9]
  simp only
  have := rd_steps l h4 [] l.length (Nat.le_refl _)
  rw [List.append_nil] at this
  rw [this, e1]
  simp [encSteps]
theorem enc_one {p q : ProgS} (hp : progB p = true) (hq : progB q = true) (h : encProg p = encProg q) : p = q := by
  have h1 := rd_prog hp
  rw [h, rd_prog hq] at h1
  exact (congrArg Prod.fst h1).symm
/-- The program whose bytes these are. -/
theorem rd_is {l : List UInt8} {p : ProgS} (hp : progB p = true) (h : encProg p = l) : (rdProg l).1 = p ∧ (rdProg l).2 = some [] := by
  rw [← h, rd_prog hp]
  exact ⟨rfl, rfl⟩
/-- Are these bytes a program's? -/
def okB (l : List UInt8) : Bool := progB (rdProg l).1 && (rdProg l).2 == some [] && encProg (rdProg l).1 == l
theorem okB_iff (l : List UInt8) : okB l = true ↔ ∃ p, progB p = true ∧ encProg p = l := by
  constructor
  · intro h
    unfold okB at h
    simp only [Bool.and_eq_true, beq_iff_eq] at h
    exact ⟨_, h.1.1, h.2⟩
  · rintro ⟨p, hp, rfl⟩
    unfold okB
    rw [rd_prog hp]
    simp [hp]
theorem okB_prog {p : ProgS} (hp : progB p = true) : okB (encProg p) = true := (okB_iff _).2 ⟨p, hp, rfl⟩

theorem putL_small {n : Nat} (h : n < 16384) : (putL n).length ≤ 2 := putL_len 1 n (by omega)
theorem encStep_len {x : StepS} (h : stepB x = true) : (encStep x).length ≤ 48 := by
  obtain ⟨kind, name, undo, tries, undoTries, wait⟩ := x
  unfold stepB at h
  simp only at h
  have hp := fun {n : Nat} (h : n < 16384) => putL_small h
  have ht : ∀ s : ByteArray, s.size ≤ 16 → (textL s).length ≤ 18 := fun s hs => by
    have := hp (show s.size < 16384 by omega)
    have e : s.data.toList.length = s.size := by simp
    unfold textL
    rw [List.length_append]
    omega
  split at h
  · rename_i hk
    subst hk
    unfold undoB at h
    simp only [Bool.and_eq_true, decide_eq_true_eq, inB_iff] at h
    obtain ⟨hu, ⟨hn, ht1, ht2⟩, hw⟩ := h
    have hns := name_size hn
    have hus : undo.size ≤ 16 ∧ 0 ≤ undoTries ∧ undoTries ≤ 5 := by
      split at hu
      · rename_i h0
        simp only [decide_eq_true_eq] at hu
        omega
      · simp only [Bool.and_eq_true, inB_iff] at hu
        have := name_size hu.1
        omega
    have a1 := ht name hns.2
    have a2 := ht undo hus.1
    have a3 := hp (show tries.toNat < 16384 by omega)
    have a4 := hp (show undoTries.toNat < 16384 by omega)
    have a5 := hp (show (1 : Int).toNat < 16384 by decide)
    unfold encStep
    simp only [if_true, List.length_append]
    omega
  · split at h
    · rename_i hk
      subst hk
      simp only [Bool.and_eq_true, decide_eq_true_eq, inB_iff] at h
      have a3 := hp (show wait.toNat < 16384 by omega)
      have a5 := hp (show (2 : Int).toNat < 16384 by decide)
      unfold encStep
      simp only [show ¬ (2 : Int) = 1 by omega, if_false, if_true, List.length_append]
      omega
    · split at h
      · rename_i hk
        subst hk
        simp only [Bool.and_eq_true, decide_eq_true_eq] at h
        have hns := name_size h.1.1.1.1
        have a1 := ht name hns.2
        have a5 := hp (show (3 : Int).toNat < 16384 by decide)
        unfold encStep
        simp only [show ¬ (3 : Int) = 1 by omega, show ¬ (3 : Int) = 2 by omega, if_false, List.length_append]
        omega
      · cases h
theorem encSteps_len : ∀ (l : List StepS), l.all stepB = true → (encSteps l).length ≤ 48 * l.length
  | [], _ => by simp [encSteps]
  | x :: r, h => by
    simp only [List.all_cons, Bool.and_eq_true] at h
    have h1 := encStep_len h.1
    have h2 := encSteps_len r h.2
    unfold encSteps at h2 ⊢
    rw [List.flatMap_cons, List.length_append, List.length_cons]
    omega
theorem encSteps_next {l : List StepS} {k : Nat} (h : k < l.length) : encSteps (l.take (k + 1)) = encSteps (l.take k) ++ encStep l[k] := by
  rw [List.take_succ_eq_append_getElem h]
  unfold encSteps
  rw [List.flatMap_append, List.flatMap_cons, List.flatMap_nil, List.append_nil]
end Go.Proofs.Ytlkfpeefjpmmfaa

/- Joined: M03 WT W00b I01 I02 M05 M05p M05s R05 R05b R05c R05d I11 I12 I13. -/
import Derived.Maps.Ext
import Derived.Maps.OwnSet
import Derived.Sort.KeysCollected
import Derived.Test.YtebiipmaimdocaaChecked
import Derived.Laws.IdiomStrings
import Derived.Outline
import Derived.WalkSmall
import Derived.OneCell
import Derived.Lib.AppendStr
import Derived.Maps.AppendAt
import Derived.RegionTactic
import Derived.RangeFuncBox
import Derived.RangeFuncNested
import Derived.RangeFuncBound
import Derived.RangeFuncCalls
import Derived.RangeFuncLeaves
import Derived.Shelf.Abstract
import Derived.Shelf.RegionOpen
import Derived.WalkKit
import Derived.OwnWalkIn
import Derived.TacticsInMore
import Derived.LoopNIn
import Derived.LoopIn
import Derived.Deep.QuietTactic
import Derived.BigQuiet
import Derived.Lib.Hide
import Derived.Laws.StructEq
import Derived.Laws.ResultCell
import Derived.IntWalk
import Derived.Maps.OwnIn

namespace Go.Proofs.Ytebiipmaimdocaa
open Go.RowKit Go.Maps Go.Sort
set_option linter.unusedVariables false

abbrev Key := List UInt8

section keyed
variable {α β : Type}

/-- A pair laid where it belongs. -/
def insK (x : Key × α) : List (Key × α) → List (Key × α)
  | [] => [x]
  | y :: r => if bytesBefore x.1 y.1 then x :: y :: r else y :: insK x r
def findK (k : Key) : List (Key × α) → Option α
  | [] => none
  | y :: r => if y.1 = k then some y.2 else findK k r
def dropK (k : Key) (l : List (Key × α)) : List (Key × α) := l.filter fun p => !(p.1 == k)
/-- The pair of a key that is there, anew. -/
def updK (k : Key) (a : α) : List (Key × α) → List (Key × α)
  | [] => []
  | y :: r => if y.1 = k then (k, a) :: r else y :: updK k a r
def mapK (f : α → β) (l : List (Key × α)) : List (Key × β) := l.map fun p => (p.1, f p.2)

theorem findK_cons (k : Key) (y : Key × α) (r : List (Key × α)) : findK k (y :: r) = if y.1 = k then some y.2 else findK k r := rfl
theorem insK_map (f : α → β) (x : Key × α) (l : List (Key × α)) : mapK f (insK x l) = insK (x.1, f x.2) (mapK f l) := by
  induction l with
  | nil => rfl
  | cons y r ih =>
    simp only [insK, mapK, List.map_cons]
    split
    · rfl
    · simp only [List.map_cons]
      exact congrArg _ ih
theorem findK_map (f : α → β) (k : Key) (l : List (Key × α)) : findK k (mapK f l) = (findK k l).map f := by
  induction l with
  | nil => rfl
  | cons y r ih =>
    simp only [findK, mapK, List.map_cons]
    split
    · rfl
    · exact ih
theorem dropK_map (f : α → β) (k : Key) (l : List (Key × α)) : mapK f (dropK k l) = dropK k (mapK f l) := by
  simp only [mapK, dropK, List.filter_map]; rfl
theorem updK_map (f : α → β) (k : Key) (a : α) (l : List (Key × α)) : mapK f (updK k a l) = updK k (f a) (mapK f l) := by
  induction l with
  | nil => rfl
  | cons y r ih =>
    simp only [updK, mapK, List.map_cons]
    split
    · rfl
    · simp only [List.map_cons]
      exact congrArg _ ih
theorem mapK_mapK {γ : Type} (f : α → β) (g : β → γ) (l : List (Key × α)) : mapK g (mapK f l) = mapK (fun a => g (f a)) l := by simp [mapK]
theorem mapK_keys (f : α → β) (l : List (Key × α)) : (mapK f l).map (·.1) = l.map (·.1) := by simp [mapK]
theorem mapK_len (f : α → β) (l : List (Key × α)) : (mapK f l).length = l.length := by simp [mapK]

theorem insK_perm (x : Key × α) (l : List (Key × α)) : (insK x l).Perm (x :: l) := by
  induction l with
  | nil => exact List.Perm.refl _
  | cons y r ih =>
    unfold insK
    split
    · exact List.Perm.refl _
    · exact (ih.cons y).trans (List.Perm.swap x y r)
theorem insK_len (x : Key × α) (l : List (Key × α)) : (insK x l).length = l.length + 1 := (insK_perm x l).length_eq
theorem updK_len (k : Key) (a : α) (l : List (Key × α)) : (updK k a l).length = l.length := by
  induction l with
  | nil => rfl
  | cons y r ih => unfold updK; split <;> simp [ih]
theorem updK_keys (k : Key) (a : α) (l : List (Key × α)) : (updK k a l).map (·.1) = l.map (·.1) := by
  induction l with
  | nil => rfl
  | cons y r ih =>
    unfold updK
    split
    · rename_i h; simp [h]
    · simp [ih]
theorem findK_mem {k : Key} {a : α} {l : List (Key × α)} (h : findK k l = some a) : (k, a) ∈ l := by
  induction l with
  | nil => cases h
  | cons y r ih =>
    unfold findK at h
    split at h
    · rename_i hk
      injection h with h
      subst h; subst hk
      simp
    · exact List.mem_cons_of_mem _ (ih h)
theorem findK_none {k : Key} {l : List (Key × α)} : findK k l = none ↔ ∀ p ∈ l, p.1 ≠ k := by
  induction l with
  | nil => simp [findK]
  | cons y r ih =>
    unfold findK
    split
    · rename_i h; simp [h]
    · rename_i h; rw [ih]; simp [h]
theorem dropK_none {k : Key} {l : List (Key × α)} (h : findK k l = none) : dropK k l = l := by
  rw [findK_none] at h
  unfold dropK
  rw [List.filter_eq_self]
  intro p hp
  simpa using h p hp
theorem findK_ins {k k' : Key} {a : α} {l : List (Key × α)} (h : findK k l = none) : findK k' (insK (k, a) l) = if k = k' then some a else findK k' l := by
  induction l with
  | nil => simp [insK, findK]
  | cons y r ih =>
    unfold findK at h
    split at h
    · cases h
    · rename_i hy
      unfold insK
      split
      · conv => lhs; unfold findK
      · unfold findK
        split
        · rename_i h2
          rw [if_neg (fun e => hy (by rw [h2, e]))]
        · exact ih h
theorem findK_upd {k k' : Key} {a b : α} {l : List (Key × α)} (h : findK k l = some b) : findK k' (updK k a l) = if k = k' then some a else findK k' l := by
  induction l with
  | nil => cases h
  | cons y r ih =>
    unfold findK at h
    split at h
    · rename_i hy
      unfold updK
      rw [if_pos hy]
      simp only [findK]
      split
      · rfl
      · rename_i h2
        rw [if_neg (fun e => h2 (by rw [← hy, e]))]
    · rename_i hy
      unfold updK
      rw [if_neg hy]
      simp only [findK]
      split
      · rename_i h2
        rw [if_neg (fun e => hy (by rw [h2, e]))]
      · exact ih h
theorem mem_upd {k : Key} {a : α} {l : List (Key × α)} {p : Key × α} (h : p ∈ updK k a l) : p = (k, a) ∨ p ∈ l := by
  induction l with
  | nil => cases h
  | cons y r ih =>
    unfold updK at h
    split at h
    · rcases List.mem_cons.1 h with h | h
      · exact .inl h
      · exact .inr (List.mem_cons_of_mem _ h)
    · rcases List.mem_cons.1 h with h | h
      · exact .inr (by simp [h])
      · rcases ih h with h | h
        · exact .inl h
        · exact .inr (List.mem_cons_of_mem _ h)
/-- .. and what is left of the old pairs lies apart from the one that was changed. -/
theorem mem_upd' {R : (Key × α) → (Key × α) → Prop} (hs : ∀ {x y}, R x y → R y x) {k : Key} {a b : α} {l : List (Key × α)} (h : findK k l = some b) (hp : l.Pairwise R) {p : Key × α} (hm : p ∈ updK k a l) : p = (k, a) ∨ (p ∈ l ∧ R (k, b) p) := by
  induction l with
  | nil => cases h
  | cons y r ih =>
    obtain ⟨h1, h2⟩ := List.pairwise_cons.1 hp
    unfold findK at h
    split at h
    · rename_i hy
      injection h with h
      unfold updK at hm
      rw [if_pos hy] at hm
      obtain ⟨y1, y2⟩ := y
      simp only at hy h
      subst hy; subst h
      rcases List.mem_cons.1 hm with hm | hm
      · exact .inl hm
      · exact .inr ⟨List.mem_cons_of_mem _ hm, h1 p hm⟩
    · rename_i hy
      unfold updK at hm
      rw [if_neg hy] at hm
      rcases List.mem_cons.1 hm with rfl | hm
      · exact .inr ⟨by simp, hs (h1 _ (findK_mem h))⟩
      · rcases ih h h2 hm with h3 | ⟨h3, h4⟩
        · exact .inl h3
        · exact .inr ⟨List.mem_cons_of_mem _ h3, h4⟩
theorem updK_same {k : Key} {a : α} {l : List (Key × α)} (h : findK k l = some a) : updK k a l = l := by
  induction l with
  | nil => rfl
  | cons y r ih =>
    unfold findK at h
    unfold updK
    split at h
    · rename_i hy
      injection h with h
      rw [if_pos hy, ← h, ← hy]
    · rename_i hy
      rw [if_neg hy, ih h]
theorem upd_ins {k : Key} {a b : α} {l : List (Key × α)} (h : findK k l = none) : updK k a (insK (k, b) l) = insK (k, a) l := by
  induction l with
  | nil => simp [insK, updK]
  | cons y r ih =>
    unfold findK at h
    split at h
    · cases h
    · rename_i hy
      unfold insK
      split
      · simp [updK]
      · unfold updK
        rw [if_neg hy, ih h]
theorem dropK_sub {k : Key} {l : List (Key × α)} {p : Key × α} (h : p ∈ dropK k l) : p ∈ l ∧ p.1 ≠ k := by
  unfold dropK at h
  obtain ⟨h1, h2⟩ := List.mem_filter.1 h
  exact ⟨h1, by simpa using h2⟩
theorem findK_drop {k k' : Key} (l : List (Key × α)) : findK k' (dropK k l) = if k = k' then none else findK k' l := by
  induction l with
  | nil => simp [dropK, findK]
  | cons y r ih =>
    by_cases hy : y.1 = k
    · have e : dropK k (y :: r) = dropK k r := by simp [dropK, hy]
      rw [e, ih]
      split
      · rfl
      · rename_i hk
        rw [findK_cons, if_neg (fun e => hk (by rw [← hy, e]))]
    · have e : dropK k (y :: r) = y :: dropK k r := by simp [dropK, hy]
      rw [e, findK_cons, findK_cons, ih]
      by_cases h2 : y.1 = k'
      · rw [if_pos h2, if_neg (fun e => hy (by rw [h2, e])), if_pos h2]
      · rw [if_neg h2, if_neg h2]
/-- What holds of any two pairs holds behind a change of one, if the new one keeps to it. -/
theorem pairwise_upd {R : (Key × α) → (Key × α) → Prop} (hs : ∀ {x y}, R x y → R y x) {k : Key} {a b : α} {l : List (Key × α)} (h : findK k l = some b) (hp : l.Pairwise R) (hn : ∀ p, p ∈ l → R (k, b) p → R (k, a) p) : (updK k a l).Pairwise R := by
  induction l with
  | nil => cases h
  | cons y r ih =>
    obtain ⟨h1, h2⟩ := List.pairwise_cons.1 hp
    unfold findK at h
    split at h
    · rename_i hy
      injection h with h
      unfold updK
      rw [if_pos hy]
      refine List.pairwise_cons.2 ⟨fun p hpm => hn p (List.mem_cons_of_mem _ hpm) ?_, h2⟩
      have := h1 p hpm
      obtain ⟨y1, y2⟩ := y
      simp only at hy h
      subst hy; subst h
      exact this
    · rename_i hy
      unfold updK
      rw [if_neg hy]
      refine List.pairwise_cons.2 ⟨fun p hpm => ?_, ih h h2 (fun p hm => hn p (List.mem_cons_of_mem _ hm))⟩
      rcases mem_upd hpm with rfl | hpm
      · exact hs (hn y (by simp) (hs (h1 _ (findK_mem h))))
      · exact h1 p hpm
end keyed

/-! ### such a list as a map's reading -/
abbrev DU := DataW Unit
def dOf (l : List (Key × Nat)) : List (Lit × DU) := l.map fun p => (.string p.1, .lit (.int .i64 (p.2 : Int)))
def toD (l : List (Key × Nat)) : DU := .map (dOf l)

theorem dOf_ins (x : Key × Nat) (l : List (Key × Nat)) : dOf (insK x l) = DataW.insert (.string x.1, .lit (.int .i64 (x.2 : Int))) (dOf l) := by
  induction l with
  | nil => rfl
  | cons y r ih =>
    by_cases h : bytesBefore x.1 y.1 = true
    · simp [insK, dOf, DataW.insert, Lit.before, h]
    · have e : dOf (insK x (y :: r)) = (.string y.1, .lit (.int .i64 (y.2 : Int))) :: dOf (insK x r) := by simp [insK, dOf, h]
      rw [e, ih]
      simp [dOf, DataW.insert, Lit.before, h]
theorem dOf_drop (k : Key) (l : List (Key × Nat)) : dOf (dropK k l) = (dOf l).filter (fun p => !p.1.sameKey (.string k)) := by
  simp only [dOf, dropK, List.filter_map]; rfl
theorem toD_ins {k : Key} {q : Nat} {l : List (Key × Nat)} (h : findK k l = none) : (toD l).put (.string k) (.lit (.int .i64 (q : Int))) = toD (insK (k, q) l) := by
  show DataW.map (DataW.insert _ ((dOf l).filter _)) = DataW.map _
  rw [dOf_ins, ← dOf_drop, dropK_none h]
theorem toD_del (k : Key) (l : List (Key × Nat)) : (toD l).del (.string k) = toD (dropK k l) := by
  show DataW.map ((dOf l).filter _) = DataW.map _
  rw [dOf_drop]
theorem toD_at (k : Key) (l : List (Key × Nat)) : (toD l).atKey (.string k) .nil = match findK k l with | none => .nil | some q => .lit (.int .i64 (q : Int)) := by
  induction l with
  | nil => rfl
  | cons y r ih =>
    unfold findK
    simp only [toD, dOf, List.map_cons, DataW.atKey] at ih ⊢
    by_cases h : y.1 = k
    · rw [if_pos h, List.find?_cons_of_pos (by simp [Lit.sameKey, h])]
    · rw [if_neg h, List.find?_cons_of_neg (by simp [Lit.sameKey, h])]
      exact ih
theorem toD_keys (l : List (Key × Nat)) : strKeys (toD l) = l.map (·.1) := by
  simp [toD, dOf, strKeys, strOf]
theorem toD_size (l : List (Key × Nat)) : Maps.size (toD l) = l.length := by simp [toD, dOf, Maps.size]

/-- In the rising order of the keys. -/
def Rising {α : Type} (l : List (Key × α)) : Prop := l.Pairwise fun a b => bytesBefore a.1 b.1 = true
theorem rising_of_canon {l : List (Key × Nat)} (h : Canon (toD l)) : Rising l := by
  obtain ⟨es, he, hp, _⟩ := h
  injection he with he
  subst he
  unfold dOf at hp
  rw [List.pairwise_map] at hp
  exact hp
theorem rising_map {α β : Type} (f : α → β) {l : List (Key × α)} : Rising (mapK f l) ↔ Rising l := by
  unfold Rising mapK
  rw [List.pairwise_map]

theorem before_lt : ∀ a b : Key, bytesBefore a b = true ↔ a < b
  | [], [] => by simp [bytesBefore]
  | [], _ :: _ => by simp [bytesBefore]
  | _ :: _, [] => by simp [bytesBefore]
  | a :: r, b :: s => by
    rw [List.cons_lt_cons_iff, ← before_lt r s]
    simp [bytesBefore]

/-- The names, sorted: just so they stand. -/
theorem sorted_names {α : Type} {l : List (Key × α)} (h : Rising l) {ss : List Key} (hp : ss.Perm (l.map (·.1))) : ss.mergeSort (fun x y => decide (x ≤ y)) = l.map (·.1) := by
  have tr : ∀ a b c : Key, decide (a ≤ b) = true → decide (b ≤ c) = true → decide (a ≤ c) = true := fun a b c h1 h2 => by simp only [decide_eq_true_eq] at *; exact List.le_trans h1 h2
  have tot : ∀ a b : Key, (decide (a ≤ b) || decide (b ≤ a)) = true := fun a b => by
    rcases List.le_total a b with h | h <;> simp [h]
  refine List.Perm.eq_of_pairwise (le := fun a b => a ≤ b) ?_ ?_ ?_ ((List.mergeSort_perm _ _).trans hp)
  · intro a b _ _ h1 h2; exact List.le_antisymm h1 h2
  · exact (List.pairwise_mergeSort tr tot ss).imp (fun {a b} h => by simpa using h)
  · rw [List.pairwise_map]
    exact h.imp (fun {a b} hab => List.le_of_lt ((before_lt _ _).1 hab))

/-! ### boxes -/
/-- A file: its bytes; how many of them are durable. -/
structure FileS where
  bytes : List UInt8
  dur : Nat
structure Bx where
  files : List (Key × FileS)
  fuel : Int
  down : Bool

def Bx.new : Bx := ⟨[], -1, false⟩
def nameOK (n : Key) : Bool := decide (1 ≤ n.length ∧ n.length ≤ 32)
def Bx.fall (S : Bx) : Bx := { S with down := true }
def Bx.burnt (S : Bx) : Bx := { S with fuel := if 0 < S.fuel then S.fuel - 1 else S.fuel }
/-- A change of the files of a box that is up. -/
def Bx.change (S : Bx) (f : List (Key × FileS)) : Bx × Int := if S.fuel = 0 then (S.fall, 30) else ({ S.burnt with files := f }, 0)
def addF (d : List UInt8) (f : FileS) : FileS := ⟨f.bytes ++ d, f.dur⟩
def addK (n : Key) (d : List UInt8) (l : List (Key × FileS)) : List (Key × FileS) :=
  match findK n l with
  | none => insK (n, ⟨d, 0⟩) l
  | some f => updK n (addF d f) l
def Bx.append (S : Bx) (n : Key) (d : List UInt8) : Bx × Int :=
  if S.down then (S, 30) else if nameOK n = false then (S, 1) else S.change (addK n d S.files)
def firmF (f : FileS) : FileS := ⟨f.bytes, f.bytes.length⟩
def Bx.sync (S : Bx) (n : Key) : Bx × Int :=
  if S.down then (S, 30) else match findK n S.files with
  | none => (S, 31)
  | some f => S.change (updK n (firmF f) S.files)
def Bx.delete (S : Bx) (n : Key) : Bx × Int :=
  if S.down then (S, 30) else match findK n S.files with
  | none => (S, 31)
  | some _ => S.change (dropK n S.files)
def Bx.read (S : Bx) (n : Key) : List UInt8 × Int :=
  if S.down then ([], 30) else match findK n S.files with
  | none => ([], 31)
  | some f => (f.bytes, 0)
theorem Bx.read_down {S : Bx} {n : Key} (h : S.down = true) : S.read n = ([], 30) := by unfold Bx.read; rw [if_pos h]
theorem Bx.read_none {S : Bx} {n : Key} (h : S.down = false) (hf : findK n S.files = none) : S.read n = ([], 31) := by unfold Bx.read; rw [if_neg (by simp [h]), hf]
theorem Bx.read_some {S : Bx} {n : Key} {f : FileS} (h : S.down = false) (hf : findK n S.files = some f) : S.read n = (f.bytes, 0) := by unfold Bx.read; rw [if_neg (by simp [h]), hf]
theorem Bx.sync_down {S : Bx} {n : Key} (h : S.down = true) : S.sync n = (S, 30) := by unfold Bx.sync; rw [if_pos h]
theorem Bx.sync_none {S : Bx} {n : Key} (h : S.down = false) (hf : findK n S.files = none) : S.sync n = (S, 31) := by unfold Bx.sync; rw [if_neg (by simp [h]), hf]
theorem Bx.sync_some {S : Bx} {n : Key} {f : FileS} (h : S.down = false) (hf : findK n S.files = some f) : S.sync n = S.change (updK n (firmF f) S.files) := by unfold Bx.sync; rw [if_neg (by simp [h]), hf]
theorem Bx.delete_down {S : Bx} {n : Key} (h : S.down = true) : S.delete n = (S, 30) := by unfold Bx.delete; rw [if_pos h]
theorem Bx.delete_none {S : Bx} {n : Key} (h : S.down = false) (hf : findK n S.files = none) : S.delete n = (S, 31) := by unfold Bx.delete; rw [if_neg (by simp [h]), hf]
theorem Bx.delete_some {S : Bx} {n : Key} {f : FileS} (h : S.down = false) (hf : findK n S.files = some f) : S.delete n = S.change (dropK n S.files) := by unfold Bx.delete; rw [if_neg (by simp [h]), hf]
theorem Bx.append_down {S : Bx} {n : Key} {d : List UInt8} (h : S.down = true) : S.append n d = (S, 30) := by unfold Bx.append; rw [if_pos h]
theorem Bx.append_bad {S : Bx} {n : Key} {d : List UInt8} (h : S.down = false) (hn : nameOK n = false) : S.append n d = (S, 1) := by unfold Bx.append; rw [if_neg (by simp [h]), if_pos hn]
theorem Bx.append_ok {S : Bx} {n : Key} {d : List UInt8} (h : S.down = false) (hn : nameOK n = true) : S.append n d = S.change (addK n d S.files) := by unfold Bx.append; rw [if_neg (by simp [h]), if_neg (by simp [hn])]
theorem Bx.change_no {S : Bx} {f : List (Key × FileS)} (h : S.fuel = 0) : S.change f = (S.fall, 30) := by unfold Bx.change; rw [if_pos h]
theorem Bx.change_yes {S : Bx} {f : List (Key × FileS)} (h : S.fuel ≠ 0) : S.change f = ({ S.burnt with files := f }, 0) := by unfold Bx.change; rw [if_neg h]
def keptN (keep : List Int) (k : Nat) : Nat := (keep.getD k 0).toNat
/-- What a crash leaves of a file, the k-th one with soft bytes if it has some. -/
def leftN (keep : List Int) (k : Nat) (f : FileS) : Nat := if f.dur < f.bytes.length then f.dur + min (keptN keep k) (f.bytes.length - f.dur) else f.dur
def crashStep (keep : List Int) (a : List (Key × FileS) × Nat) (x : Key × FileS) : List (Key × FileS) × Nat :=
  (if 0 < leftN keep a.2 x.2 then insK (x.1, ⟨x.2.bytes.take (leftN keep a.2 x.2), leftN keep a.2 x.2⟩) a.1 else a.1, if x.2.dur < x.2.bytes.length then a.2 + 1 else a.2)
def crashL (keep : List Int) (l : List (Key × FileS)) : List (Key × FileS) × Nat := l.foldl (crashStep keep) ([], 0)
def Bx.crash (S : Bx) (keep : List Int) : Bx := ⟨(crashL keep S.files).1, -1, false⟩

/-- How much a box holds. -/
def weigh (l : List (Key × FileS)) : Nat := (l.map fun p => p.2.bytes.length + 1).sum

theorem crashL_take {keep : List Int} {l : List (Key × FileS)} {i : Nat} (h : i < l.length) : crashL keep (l.take (i + 1)) = crashStep keep (crashL keep (l.take i)) l[i] := by
  rw [crashL, List.take_succ_eq_append_getElem h, List.foldl_append]; rfl

theorem crashStep_keys {keep : List Int} {a : List (Key × FileS) × Nat} {x : Key × FileS} {q : Key × FileS} (h : q ∈ (crashStep keep a x).1) : q ∈ a.1 ∨ q.1 = x.1 := by
  unfold crashStep at h
  simp only at h
  split at h
  · rcases List.mem_cons.1 ((insK_perm _ _).mem_iff.1 h) with rfl | h
    · exact .inr rfl
    · exact .inl h
  · exact .inl h
theorem crashL_keys {keep : List Int} {l : List (Key × FileS)} : ∀ k, k ≤ l.length → ∀ q ∈ (crashL keep (l.take k)).1, ∃ j, ∃ h : j < l.length, j < k ∧ l[j].1 = q.1 := by
  intro k
  induction k with
  | zero => intro _ q hq; simp [crashL] at hq
  | succ k ih =>
    intro hk q hq
    rw [crashL_take (by omega)] at hq
    rcases crashStep_keys hq with h | h
    · obtain ⟨j, hj, h1, h2⟩ := ih (by omega) q h
      exact ⟨j, hj, by omega, h2⟩
    · exact ⟨k, by omega, by omega, h.symm⟩
theorem bytes_irrefl (a : Key) : bytesBefore a a = false := by
  cases h : bytesBefore a a with
  | false => rfl
  | true => exact absurd ((before_lt a a).1 h) (List.lt_irrefl a)
theorem rising_ne {α : Type} {l : List (Key × α)} (h : Rising l) {i j : Nat} (hi : i < l.length) (hj : j < l.length) (hij : i < j) : l[i].1 ≠ l[j].1 := by
  intro e
  have := (List.pairwise_iff_getElem.1 h) i j hi hj hij
  rw [e, bytes_irrefl] at this
  cases this
theorem crashL_fresh {keep : List Int} {l : List (Key × FileS)} (h : Rising l) {k : Nat} (hk : k < l.length) : findK l[k].1 (crashL keep (l.take k)).1 = none := by
  rw [findK_none]
  intro q hq e
  obtain ⟨j, hj, hjk, he⟩ := crashL_keys k (by omega) q hq
  exact rising_ne h hj hk hjk (he.trans e)
theorem crashL_len {keep : List Int} {l : List (Key × FileS)} : ∀ k, k ≤ l.length → (crashL keep (l.take k)).1.length ≤ k ∧ (crashL keep (l.take k)).2 ≤ k := by
  intro k
  induction k with
  | zero => intro _; simp [crashL]
  | succ k ih =>
    intro hk
    have := ih (by omega)
    rw [crashL_take (by omega)]
    unfold crashStep
    simp only
    constructor
    · split
      · rw [insK_len]; omega
      · omega
    · split <;> omega
theorem findK_at {α : Type} {l : List (Key × α)} (h : Rising l) {k : Nat} (hk : k < l.length) : findK l[k].1 l = some l[k].2 := by
  induction l generalizing k with
  | nil => simp at hk
  | cons y r ih =>
    rw [findK_cons]
    cases k with
    | zero => simp
    | succ k =>
      have hk' : k < r.length := by simpa using hk
      have h2 := rising_ne h (i := 0) (j := k + 1) (by simp) hk (by omega)
      simp only [List.getElem_cons_zero, List.getElem_cons_succ] at h2 ⊢
      rw [if_neg h2]
      exact ih (List.pairwise_cons.1 h).2 hk'

end Go.Proofs.Ytebiipmaimdocaa

namespace Go.Proofs.Ytebiipmaimdocaa
open Go.RowKit Go.Maps Go.WideMaps
set_option linter.unusedVariables false

/-- w' is w but for the blocks of F, and for new ones. -/
structure Turn (F : Nat → Prop) (w w' : World) : Prop where
  os : w'.os = w.os
  tape : w'.tape = w.tape
  output : w'.output = w.output
  size : w.heap.size ≤ w'.heap.size
  block : ∀ k, k < w.heap.size → ¬ F k → w'.heap[k]? = w.heap[k]?

section
variable {F G : Nat → Prop} {a b c w w' : World} {B : Nat}

theorem Turn.refl (F : Nat → Prop) (w : World) : Turn F w w := ⟨rfl, rfl, rfl, Nat.le_refl _, fun _ _ _ => rfl⟩
theorem Turn.trans (h : Turn F a b) (k : Turn G b c) (hg : ∀ i, G i → F i ∨ a.heap.size ≤ i) : Turn F a c :=
  ⟨k.os.trans h.os, k.tape.trans h.tape, k.output.trans h.output, Nat.le_trans h.size k.size, fun i hi hf =>
    (k.block i (Nat.lt_of_lt_of_le hi h.size) (fun g => by rcases hg i g with h1 | h1; exact hf h1; omega)).trans (h.block i hi hf)⟩
theorem Turn.mono (h : Turn F a b) (hg : ∀ i, F i → G i ∨ a.heap.size ≤ i) : Turn G a b :=
  ⟨h.os, h.tape, h.output, h.size, fun i hi hf => h.block i hi (fun g => by rcases hg i g with h1 | h1; exact hf h1; omega)⟩
theorem Turn.of_below (F : Nat → Prop) (h : Below a.heap.size a b) : Turn F a b := ⟨h.os, h.tape, h.output, h.size, fun i hi _ => h.block i hi⟩
theorem Turn.below (h : Turn F a b) (hF : ∀ i, F i → B ≤ i) (hB : B ≤ a.heap.size) : Below B a b :=
  ⟨h.os, h.tape, h.output, h.size, fun i hi => h.block i (by omega) (fun g => by have := hF i g; omega)⟩
theorem Turn.drew (h : Turn F a w) : Turn F a w.drew := ⟨h.os, h.tape, h.output, h.size, h.block⟩
theorem Turn.alloc (h : Turn F a w) (o : Obj) : Turn F a (w.alloc o) :=
  ⟨h.os, h.tape, h.output, by have := h.size; simp; omega, fun i hi hf => (Below.heap_alloc _ _ _ (by have := h.size; omega)).trans (h.block i hi hf)⟩
theorem Turn.setCell (h : Turn F a w) {p : Addr} (hp : F p.block ∨ a.heap.size ≤ p.block) (v : Value) : Turn F a (w.setCell p v) :=
  ⟨h.os, h.tape, h.output, by have := h.size; simpa [World.setCell] using this, fun i hi hf => (Below.heap_setCell _ _ _ _ (fun e => by subst e; rcases hp with h1 | h1; exact hf h1; omega)).trans (h.block i hi hf)⟩
theorem Turn.grown (h : Turn F a w) {row : Option Nat} (hg : w.grownBy w' row) (hr : ∀ k, row = some k → F k ∨ a.heap.size ≤ k) : Turn F a w' :=
  ⟨hg.os.trans h.os, hg.tape.trans h.tape, hg.output.trans h.output, Nat.le_trans h.size hg.size, fun i hi hf =>
    (hg.block i (by have := h.size; omega) (fun e => by rcases hr i e.symm with h1 | h1; exact hf h1; omega)).trans (h.block i hi hf)⟩

theorem below_undrew {w w' : World} (h : Below w.drew.heap.size w.drew w') : Below w.heap.size w w' := ⟨h.os, h.tape, h.output, h.size, h.block⟩
theorem block_lt {w : World} {k : Nat} {o : Obj} (h : w.heap[k]? = some o) : k < w.heap.size := lt_of_block h
theorem Turn.keeps (h : Turn G w w') {k : Nat} {o : Obj} (hk : w.heap[k]? = some o) (hg : ¬ G k) : w'.heap[k]? = some o := (h.block k (block_lt hk) hg).trans hk
theorem Turn.row (h : Turn G w w') {base : Nat} {e : TypeId} {size : Nat} {v : Value} {n : Nat} {xs : List Value} (hr : w.ownsRow base e size v n xs) (hg : ∀ k, v.ownBlock = some k → ¬ G k) : w'.ownsRow base e size v n xs := by
  refine ⟨hr.1, ?_⟩
  rcases hr.2 with h1 | ⟨g, cap, cur, hv, hb, hgg, rest⟩
  · exact .inl h1
  · subst hv
    exact .inr ⟨g, cap, cur, rfl, hb, h.keeps hgg (hg g rfl), rest⟩
theorem Turn.map (h : Turn G w w') {P : Program} {k : TypeId} {R : Value → Option (DU × List MemPlace)} {b n : Nat} {D : DU} (hm : w.ownsMap P k R b n D) (hg : ¬ G b) : w'.ownsMap P k R b n D := by
  obtain ⟨es, clock, hb, r⟩ := hm
  exact ⟨es, clock, h.keeps hb hg, r⟩
end

/-- A store into a block of cells. -/
theorem block_set {w : World} {b : Nat} {c : Array Value} {t : TypeId} {f : Nat × Nat} (h : w.heap[b]? = some (.cells c t f)) (i : Nat) (v : Value) : (w.setCell ⟨b, i, none⟩ v).heap[b]? = some (.cells (c.setIfInBounds i v) t f) := by
  have hlt := block_lt h
  have h' : w.heap[b] = .cells c t f := by simpa [Array.getElem?_eq_getElem hlt] using h
  show (w.heap.modify b _)[b]? = _
  rw [Array.getElem?_eq_getElem (by simpa using hlt), Array.getElem_modify_self, h']
  rfl
theorem block_cell {w : World} {b : Nat} {c : Array Value} {t : TypeId} {f : Nat × Nat} (h : w.heap[b]? = some (.cells c t f)) (i : Nat) : w.cell? ⟨b, i, none⟩ = c[i]? := by simp [World.cell?, h]
theorem block_free {w : World} {b : Nat} {c : Array Value} {t : TypeId} (h : w.heap[b]? = some (.cells c t (0, 0))) (i : Nat) : w.frozen? ⟨b, i, none⟩ = false := by simp [World.frozen?, h]

end Go.Proofs.Ytebiipmaimdocaa

namespace Go.Proofs.Ytebiipmaimdocaa
open Go.RowKit Go.Maps Go.WideMaps
set_option linter.unusedVariables false

/-- A value whose m elements can be appended: nil, or cells in a row. -/
structure SrcRow (w : World) (x : Value) (m sz : Nat) (news : List Value) : Prop where
  len : news.length = m * sz
  one : ∀ u ∈ news, u.oneCell' = true
  row : (x = .slice none 0 0 ∧ m = 0) ∨ ∃ ad c, x = .slice (some ad) m c ∧ ∀ j u, news[j]? = some u → w.cell? (ad.add j) = some u

abbrev NoF : Nat → Prop := fun _ => False

section
variable {T E : TypeId} {sz : Nat} {w : World} {v : Value} {n : Nat} {xs : List Value}

/-- The first k elements. -/
theorem src_take (ht : Try.prog.underlying T = some (.slice (Try.prog.elem T))) (hs : ∀ w, (sizeOf (Try.prog.elem T)).run Try.prog w = .ok sz w) (h : w.ownsRow 0 E sz v n xs) (h1 : ∀ u ∈ xs, u.oneCell' = true) {k : Nat} (hk : k ≤ n) :
    ∃ x, (∀ wx, (Instr.slice T v none (some (.int .i64 (k : Int))) none).run Try.prog wx = .ok x wx) ∧ ∀ wx, Turn NoF w wx → SrcRow wx x k sz (xs.take (k * sz)) := by
  have hl := h.1
  have hkn : k * sz ≤ n * sz := Nat.mul_le_mul_right _ hk
  rcases h.2 with ⟨rfl, h0⟩ | ⟨g, cap, cur, rfl, _, hg, hle, hcm, _, htake⟩
  · obtain rfl : k = 0 := by omega
    refine ⟨.slice none 0 0, fun wx => ?_, fun wx t => ⟨by simp, by simp, .inl ⟨rfl, rfl⟩⟩⟩
    have := run_slice_h (P := Try.prog) (w := wx) T none 0 0 ht .i64 0 (by omega) (by omega)
    rw [hs] at this
    exact this
  · refine ⟨.slice (some ⟨g, 0, none⟩) k cap, fun wx => ?_, fun wx t => ⟨by rw [List.length_take]; omega, fun u hu => h1 u (List.mem_of_mem_take hu), .inr ⟨⟨g, 0, none⟩, cap, rfl, fun j u hu => ?_⟩⟩⟩
    · have := run_slice_h (P := Try.prog) (w := wx) T (some ⟨g, 0, none⟩) n cap ht .i64 (k : Int) (by omega) (by omega)
      rw [hs] at this
      rw [this]
      show Result.ok (sliced (some ⟨g, 0, none⟩) 0 ((k : Int).toNat) cap sz) wx = _
      unfold sliced
      simp [Addr.add]
    · have hj : j < k * sz := by
        have := (List.getElem?_eq_some_iff.1 hu).1
        rw [List.length_take] at this; omega
      rw [Addr.add_lit, Nat.zero_add]
      rw [List.getElem?_take, if_pos hj] at hu
      have hc : w.cell? ⟨g, j, none⟩ = some u := (h.cellAt j (by omega)).trans hu
      exact (World.cell?_of_block (w := w) (t.block g (World.block_lt_of_cell? _ _ hc) (fun h => h))).trans hc

/-- The elements from the k-th on. -/
theorem src_drop (ht : Try.prog.underlying T = some (.slice (Try.prog.elem T))) (hs : ∀ w, (sizeOf (Try.prog.elem T)).run Try.prog w = .ok sz w) (h : w.ownsRow 0 E sz v n xs) (h1 : ∀ u ∈ xs, u.oneCell' = true) {k : Nat} (hk : k ≤ n) :
    ∃ x, (∀ wx, (Instr.slice T v (some (.int .i64 (k : Int))) none none).run Try.prog wx = .ok x wx) ∧ ∀ wx, Turn NoF w wx → SrcRow wx x (n - k) sz (xs.drop (k * sz)) := by
  have hl := h.1
  have hkn : k * sz ≤ n * sz := Nat.mul_le_mul_right _ hk
  rcases h.2 with ⟨rfl, h0⟩ | ⟨g, cap, cur, rfl, _, hg, hle, hcm, _, htake⟩
  · subst h0
    obtain rfl : k = 0 := by omega
    refine ⟨.slice none 0 0, fun wx => ?_, fun wx t => ⟨by simp at hl; simp [hl], fun u hu => h1 u (List.mem_of_mem_drop hu), .inl ⟨rfl, rfl⟩⟩⟩
    have := run_slice_l (P := Try.prog) (w := wx) T none 0 0 ht .i64 0 (by omega) (by omega)
    rw [hs] at this
    exact this
  · refine ⟨.slice (if cap = k then some ⟨g, 0, none⟩ else some ⟨g, k * sz, none⟩) (n - k) (cap - k), fun wx => ?_, fun wx t => ⟨by rw [List.length_drop, hl, Nat.sub_mul], fun u hu => h1 u (List.mem_of_mem_drop hu), .inr ?_⟩⟩
    · have := run_slice_l (P := Try.prog) (w := wx) T (some ⟨g, 0, none⟩) n cap ht .i64 (k : Int) (by omega) (by omega)
      rw [hs] at this
      rw [this]
      show Result.ok (sliced (some ⟨g, 0, none⟩) ((k : Int).toNat) n cap sz) wx = _
      have e : (if k * sz = 0 then (⟨g, 0, none⟩ : Addr) else ⟨g, k * sz, none⟩) = ⟨g, k * sz, none⟩ := by
        split
        · rename_i h; rw [h]
        · rfl
      unfold sliced
      simp [Addr.add, e]
    · by_cases hc : cap = k
      · rw [if_pos hc]
        refine ⟨_, _, rfl, fun j u hu => ?_⟩
        have := (List.getElem?_eq_some_iff.1 hu).1
        rw [List.length_drop, hl, ← Nat.sub_mul, show n - k = 0 by omega] at this
        omega
      · rw [if_neg hc]
        refine ⟨_, _, rfl, fun j u hu => ?_⟩
        have hj : j < (n - k) * sz := by
          have := (List.getElem?_eq_some_iff.1 hu).1
          rw [List.length_drop, hl, ← Nat.sub_mul] at this; omega
        have hjk : k * sz + j < n * sz := by rw [Nat.sub_mul] at hj; omega
        rw [Addr.add_lit]
        rw [List.getElem?_drop] at hu
        have hc : w.cell? ⟨g, k * sz + j, none⟩ = some u := (h.cellAt _ hjk).trans hu
        exact (World.cell?_of_block (w := w) (t.block g (World.block_lt_of_cell? _ _ hc) (fun h => h))).trans hc

/-- A new block as a source of one element. -/
theorem src_new (w : World) (cs : Array Value) (E : TypeId) (hsz : cs.size = sz) (h1 : ∀ u ∈ cs.toList, u.oneCell' = true) : SrcRow (w.alloc (.cells cs E)) (.slice (some ⟨w.heap.size, 0, none⟩) 1 1) 1 sz cs.toList :=
  ⟨by simp [hsz], h1, .inr ⟨_, _, rfl, fun j u hu => by
    rw [Addr.add_lit, Nat.zero_add, block_cell (heap_alloc_new _ _), ← Array.getElem?_toList]; exact hu⟩⟩
end

/-- append, whatever is appended. -/
theorem run_app (w : World) {T E : TypeId} (ty : TypeId) {i : TypeInfo} {z : Value} {sz bytes : Nat} (ht : Try.prog.underlying T = some (.slice E)) (hi : Try.prog.info? E = some i) (hz : i.zero = some z) (hsize : i.size = sz) (hby : i.bytes = bytes) (hzs : z.cells.size = sz) (hsz : 0 < sz)
    {v : Value} {n : Nat} {xs : List Value} (hown : w.ownsRow 0 E sz v n xs) {x : Value} {m : Nat} {news : List Value} (hx : SrcRow w x m sz news) (hb : (n + m) * bytes ≤ 140737488355328) (h63 : n + m ≤ maxLen) :
    ∃ v' w', (Builtin.append_ #[T, T] ty #[v, x]).run Try.prog w = .ok v' w' ∧ w'.ownsRow 0 E sz v' (n + m) (xs ++ news) ∧ w.grownBy w' v.ownBlock ∧ ∀ k, v'.ownBlock = some k → v.ownBlock = some k ∨ w.heap.size ≤ k := by
  rcases hx.row with ⟨rfl, rfl⟩ | ⟨ad, c, rfl, hc⟩
  · have hr := run_append_owned_none (P := Try.prog) (w := w) 0 T ty E i sz ht hi v n xs hown
    have hn : news = [] := List.eq_nil_of_length_eq_zero (by rw [hx.len]; simp)
    subst hn
    exact ⟨v, w, hr, by simpa using hown, ⟨rfl, rfl, rfl, Nat.le_refl _, fun _ _ _ => rfl⟩, fun k hk => .inl hk⟩
  · obtain ⟨v', w', hr, h2, h3, _, h5⟩ := run_append_own_at (P := Try.prog) w 0 T ty E i z sz bytes ht hi hz hsize hby hzs hsz v n xs hown ad m c news hx.len hc hx.one h63 hb (Nat.zero_le _)
    refine ⟨v', w', hr, h2, h3, fun k hk => ?_⟩
    rcases h5 with h5 | h5
    · exact .inl (h5 ▸ hk)
    · rw [h5] at hk
      injection hk with hk
      exact .inr (by omega)

theorem wpList_app (w : World) {ops : Array Oper} {rest : List Oper} {o : Oper} {a : Act} {Q : Exit → Act → World → Prop} (hgd : o.guard = none) (sl x : Operand) {T E : TypeId}
    (ho : o.op = .call { callee := .builtin .append, args := #[sl, x], argTypes := #[T, T] }) {i : TypeInfo} {z : Value} {sz bytes : Nat} (ht : Try.prog.underlying T = some (.slice E)) (hi : Try.prog.info? E = some i) (hz : i.zero = some z) (hsize : i.size = sz) (hby : i.bytes = bytes) (hzs : z.cells.size = sz) (hsz : 0 < sz)
    {v : Value} {n : Nat} {xs : List Value} (hs : a.eval sl = v) (hown : w.ownsRow 0 E sz v n xs) {xv : Value} {m : Nat} {news : List Value} (hx : a.eval x = xv) (hsrc : SrcRow w xv m sz news) (hb : (n + m) * bytes ≤ 140737488355328) (h63 : n + m ≤ maxLen)
    (hK : ∀ v' w', w'.ownsRow 0 E sz v' (n + m) (xs ++ news) → w.grownBy w' v.ownBlock → (∀ k, v'.ownBlock = some k → v.ownBlock = some k ∨ w.heap.size ≤ k) → wpList Try.prog ops Q rest (a.put o.dst v') w') : wpList Try.prog ops Q (o :: rest) a w := by
  refine wpList_plain hgd fun K hK' => ?_
  obtain ⟨v', w', hr, h1, h2, h3⟩ := run_app w o.type ht hi hz hsize hby hzs hsz hown hsrc hb h63
  unfold Oper.wp execOp
  simp only [ho, resolve, invoke, builtin, Sem.run_bind, Sem.run_pure, Result.andThen_ok, List.map_toArray, List.map_cons, List.map_nil, hs, hx, hr]
  exact hK' _ _ (hK v' w' h1 h2 h3)

/-- .. as a step of a region that draws its order. -/
theorem step_app (w : World) {ops : Array Oper} {o : Oper} {a : Act} {K : Act → World → Prop} {Q : Exit → Act → World → Prop} {Z : Prop} (hgd : o.guard = none) (sl x : Operand) {T E : TypeId}
    (ho : o.op = .call { callee := .builtin .append, args := #[sl, x], argTypes := #[T, T] }) {i : TypeInfo} {z : Value} {sz bytes : Nat} (ht : Try.prog.underlying T = some (.slice E)) (hi : Try.prog.info? E = some i) (hz : i.zero = some z) (hsize : i.size = sz) (hby : i.bytes = bytes) (hzs : z.cells.size = sz) (hsz : 0 < sz)
    {v : Value} {n : Nat} {xs : List Value} (hs : a.eval sl = v) (hown : w.ownsRow 0 E sz v n xs) {xv : Value} {m : Nat} {news : List Value} (hx : a.eval x = xv) (hsrc : SrcRow w xv m sz news) (hb : (n + m) * bytes ≤ 140737488355328) (h63 : n + m ≤ maxLen)
    (hK : ∀ b c w', w'.ownsRow 0 E sz (.slice b (n + m) c) (n + m) (xs ++ news) → w.grownBy w' v.ownBlock → (∀ k, (Value.slice b (n + m) c).ownBlock = some k → v.ownBlock = some k ∨ w.heap.size ≤ k) → K (a.put o.dst (.slice b (n + m) c)) w') :
    if Region.wanted o (yielded ops a.tmps) = true then Oper.wp Try.prog o a w K Q else Z := by
  have hw : Region.wanted o (yielded ops a.tmps) = true := by simp [Region.wanted, hgd]
  rw [if_pos hw]
  obtain ⟨v', w', hr, h1, h2, h3⟩ := run_app w o.type ht hi hz hsize hby hzs hsz hown hsrc hb h63
  obtain ⟨b, c, rfl⟩ : ∃ b c, v' = .slice b (n + m) c := by
    rcases h1.2 with ⟨e1, e2⟩ | ⟨g, cap, cur, e1, _⟩
    · exact ⟨none, 0, by rw [e1, e2]⟩
    · exact ⟨_, _, e1⟩
  unfold Oper.wp execOp
  simp only [ho, resolve, invoke, builtin, Sem.run_bind, Sem.run_pure, Result.andThen_ok, List.map_toArray, List.map_cons, List.map_nil, hs, hx, hr]
  exact hK b c w' h1 h2 h3

/-- An own row as a source of an append. -/
theorem src_all {w : World} {base : Nat} {E : TypeId} {sz : Nat} {v : Value} {n : Nat} {xs : List Value} (h : w.ownsRow base E sz v n xs) (h1 : ∀ u ∈ xs, u.oneCell' = true) : SrcRow w v n sz xs := by
  refine ⟨h.1, h1, ?_⟩
  rcases h.2 with ⟨rfl, h0⟩ | ⟨g, cap, cur, rfl, _⟩
  · exact .inl ⟨rfl, h0⟩
  · refine .inr ⟨⟨g, 0, none⟩, cap, rfl, fun j u hu => ?_⟩
    have hj := (List.getElem?_eq_some_iff.1 hu).1
    rw [Addr.add_lit, Nat.zero_add]
    exact (h.cellAt j (by rw [← h.1]; exact hj)).trans hu
theorem ownsRow_up {w : World} {base base' : Nat} {E : TypeId} {sz : Nat} {v : Value} {n : Nat} {xs : List Value} (h : w.ownsRow base E sz v n xs) (hb : ∀ k, v.ownBlock = some k → base' ≤ k) : w.ownsRow base' E sz v n xs := by
  refine ⟨h.1, ?_⟩
  rcases h.2 with h1 | ⟨g, cap, cur, rfl, h2, h3⟩
  · exact .inl h1
  · exact .inr ⟨g, cap, cur, rfl, hb g rfl, h3⟩
theorem ownsRow_base {w : World} {base base' : Nat} {e : TypeId} {size : Nat} {v : Value} {n : Nat} {xs : List Value} (h : w.ownsRow base e size v n xs) (hb : base' ≤ base) : w.ownsRow base' e size v n xs := by
  refine ⟨h.1, ?_⟩
  rcases h.2 with h1 | ⟨g, cap, cur, h1, h2, h3⟩
  · exact .inl h1
  · exact .inr ⟨g, cap, cur, h1, Nat.le_trans hb h2, h3⟩
end Go.Proofs.Ytebiipmaimdocaa

namespace Go.Proofs.Ytebiipmaimdocaa
open Go.RowKit Go.Shelf
set_option linter.unusedVariables false

attribute [local go_sem] Oper.semAt_some

/-- A pair. -/
structure PairS where
  key : ByteArray
  val : ByteArray
  gone : Bool
deriving DecidableEq
def PairS.val' (p : PairS) : Value := .agg #[.string p.key, .string p.val, .bool p.gone]
def PairS.cells (p : PairS) : List Value := [.string p.key, .string p.val, .bool p.gone]
def rowP (ps : List PairS) : List Value := ps.flatMap PairS.cells
theorem rowP_snoc (ps : List PairS) (p : PairS) : rowP (ps ++ [p]) = rowP ps ++ [.string p.key, .string p.val, .bool p.gone] := by simp [rowP, PairS.cells]
theorem rowP_len (ps : List PairS) : (rowP ps).length = ps.length * 3 := by
  induction ps with
  | nil => rfl
  | cons p r ih =>
    have e : rowP (p :: r) = p.cells ++ rowP r := rfl
    rw [e, List.length_append, ih, List.length_cons]
    have : p.cells.length = 3 := rfl
    omega
/-- What a round must leave alone: the blocks of F. -/
def Keeps (F : Nat → Prop) (W W' : World) : Prop := ∀ k, F k → W'.heap[k]? = W.heap[k]?
theorem Keeps.trans {F : Nat → Prop} {A B C : World} (h : Keeps F A B) (k : Keeps F B C) : Keeps F A C := fun i hi => (k i hi).trans (h i hi)
theorem Keeps.refl (F : Nat → Prop) (A : World) : Keeps F A A := fun _ _ => rfl
theorem Keeps.of_below {F : Nat → Prop} {n : Nat} {A B : World} (h : Below n A B) (hF : ∀ k, F k → k < n) : Keeps F A B := fun i hi => h.block i (hF i hi)
theorem Keeps.put {F : Nat → Prop} {n : Nat} (hF : ∀ k, F k → k < n) (W : World) (l : Nat) (o o' : Obj) (hl : n ≤ l) (_ : W.heap[l]? = some o) (_ : o.isCells = false) (_ : o.isWalk = false) : Keeps F W (W.putObj l o') := fun i hi => World.putObj_heap_other (fun e => by have := hF i hi; omega)

/-- A function value that gives pairs, whatever is done with them between, so it keeps F's blocks. -/
def GivesP (F : Fence) (n : Nat) (g : Nat) (lb : Array Value) (G : Nat → Prop) (ps : List PairS) (w : World) : Prop :=
  SeqStopsK F n Try.prog g lb (fun p : PairS => #[p.val']) (Keeps G) (fun xs => xs = ps) (fun pre => pre <+: ps) ps.length w

/-- .. where the loop's body is handed dec's picture of each pair. -/
def GivesD (F : Fence) (n : Nat) (g : Nat) (lb : Array Value) (G : Nat → Prop) (dec : PairS → PairS) (ps : List PairS) (w : World) : Prop :=
  SeqStopsK F n Try.prog g lb (fun p : PairS => #[(dec p).val']) (Keeps G) (fun xs => xs = ps) (fun pre => pre <+: ps) ps.length w

theorem cells_new (W : World) (x : PairS) : ∀ j u, [Value.string x.key, .string x.val, .bool x.gone][j]? = some u → (W.alloc (.cells #[.string x.key, .string x.val, .bool x.gone] 29)).cell? ((⟨W.heap.size, 0, none⟩ : Addr).add j) = some u := by
  intro j u h
  have hb := World.alloc_heap_new W (.cells #[.string x.key, .string x.val, .bool x.gone] 29)
  rw [Addr.add_lit, Nat.zero_add, World.cell?, hb]
  match j, h with
  | 0, h => exact h
  | 1, h => exact h
  | 2, h => exact h
theorem three_one (x : PairS) : ∀ u ∈ [Value.string x.key, .string x.val, .bool x.gone], u.oneCell' = true := by
  intro u hu
  simp at hu
  rcases hu with rfl | rfl | rfl <;> rfl
theorem infoPair : (Try.prog.info? 29).map (fun i => (i.zero, i.size, i.bytes)) = some (some (.agg #[.string ⟨#[]⟩, .string ⟨#[]⟩, .bool false]), 3, 40) := by kernel_rfl

set_option maxRecDepth 100000 in
set_option maxHeartbeats 2000000 in
theorem append_seq (F : Fence) (n : Nat) (hf : F.fn 21) (hro : F.round = none) (hn : 2 ≤ n) (g : Nat) (lb : Array Value) (hFg : F.fn g) (eg : ∀ args w, (callFunc g args).run Try.prog w = .ok (.enter g args) w)
    (G : Nat → Prop) (ps : List PairS) (w : World) (hG : ∀ k, G k → k < w.heap.size) (hN : ps.length ≤ 3518437208880) (hseq : GivesP F (n - 1) g lb G ps w) :
    CallsIn F n Try.prog 21 #[.slice none 0 0, .func (.func g) #[] lb] w fun e W' => ∃ v, e = .returned v ∧ W'.ownsRow w.heap.size 29 3 v ps.length (rowP ps) ∧ Below w.heap.size w W' := by
  have h1 : 1 ≤ n := by omega
  obtain ⟨i0, hi, hz0, hz1, hz2⟩ := info_parts infoPair
  refine callsIn_of_wp_marks Try.func21 rfl hf ?_ hro
  simp only [Try.ntmps21, List.size_toArray, List.length_cons, List.length_nil, Nat.reduceAdd, Nat.reduceSub, Array.replicate_succ, Array.replicate_zero, List.push_toArray, List.append_toArray, List.nil_append, List.cons_append]
  gi_wp2
  have bO := Boxed.new w 26 (.slice none 0 0)
  have hB0 : Below w.heap.size w (w.alloc (.cells #[.slice none 0 0] 26)) := (Below.refl _ w).alloc (Nat.le_refl _) _
  have hs0 : (w.alloc (.cells #[.slice none 0 0] 26)).heap.size = w.heap.size + 1 := by simp
  refine wpIn_rangeFunc_ownH hro h1 (gf := g) (lb := lb) rfl hFg eg hseq (fun {A B C} => Keeps.trans) (fun W l o o' hl => Keeps.put hG W l o o' (by omega)) hB0 (fun _ => rfl)
    (fun pre W => (∃ v, Boxed W w.heap.size 26 v ∧ W.ownsRow w.heap.size 29 3 v pre.length (rowP pre) ∧ True) ∧ Below w.heap.size w W)
    (fun _ _ _ => False)
    (OwnFrom.and (Own.from (holdsRow_own w.heap.size w.heap.size 26 29 3 (fun pre => pre.length) (fun pre => rowP pre) (fun _ _ => True)) _) (ownFrom_below (Nat.le_refl _) (by omega)))
    (fun _ _ _ _ _ hs _ _ => hs)
    ⟨⟨_, bO, World.ownsRow_nil _ _ _ _, trivial⟩, hB0⟩
    (fun x a' W => ∃ Bx, w.heap.size < Bx ∧ W.heap[Bx]? = some (.cells #[.string x.key, .string x.val, .bool x.gone] 29 (0, 0)) ∧
      a' = { tmps := #[.slice none 0 0, .func (.func g) #[] lb, .pointer (some ⟨w.heap.size, 0, none⟩), undef, .slice none 0 0, .pointer (some ⟨Bx, 0, none⟩), .func (.func g) #[] lb, x.val', undef, undef, undef, undef, undef], defers := [] })
    ?hAx ?assign ?body ?done ?stop
  case hAx =>
    rintro x a' _ W W' row ⟨Bx, h1, h2, h3⟩ hg hr
    refine ⟨Bx, h1, (hg.block Bx (Array.getElem?_eq_some_iff.1 h2).1 (fun e => ?_)).trans h2, h3⟩
    obtain ⟨_, o, ho, hc⟩ := hr Bx e.symm
    rw [h2] at ho
    cases ho
    cases hc
  case assign =>
    rintro l pre x W K ⟨⟨v, hv, hrow, _⟩, hB⟩ hK
    unfold PairS.val' at *
    gi_wp2
    exact hK _ _ ((KeepsOthers.alloc _ _).from _) (Keeps.of_below ((Below.refl _ W).alloc (Nat.le_refl _) _) (fun k hk => by have := hG k hk; have := hB.size; omega)) ⟨⟨v, hv.alloc _, hrow.alloc _, trivial⟩, hB.alloc hB.size _⟩
      ⟨W.heap.size, hv.lt, World.alloc_heap_new W _, rfl⟩
  case body =>
    rintro l pre x a' W hl ⟨r, hr⟩ ⟨⟨v, hv, hrow, _⟩, hB⟩ ⟨Bx, hBx, hbx, rfl⟩ hlt
    have hc := hv.cell
    have x0 : W.cell? ⟨Bx, 0, none⟩ = some (.string x.key) := by rw [World.cell?, hbx]; rfl
    have x1 : W.cell? ⟨Bx, 1, none⟩ = some (.string x.val) := by rw [World.cell?, hbx]; rfl
    have x2 : W.cell? ⟨Bx, 2, none⟩ = some (.bool x.gone) := by rw [World.cell?, hbx]; rfl
    have hne : (26 : TypeId) ≠ 29 := by decide
    unfold PairS.val'
    gi_wp2_with (gi_at_builtin; refine wpListIn_append_own _ rfl _ _ 26 rfl w.heap.size 29 i0 _ 3 40 Try.underlying26 hi hz0 hz1 hz2 rfl (by decide) _ _ _ rfl (hrow.alloc _) ⟨W.heap.size, 0, none⟩ 1 1 [.string x.key, .string x.val, .bool x.gone] rfl rfl (cells_new _ _) (three_one x) (by unfold maxLen; omega) (by omega) (by have := hB.size; simp; omega) ?_; intro v' w1 hown' hgrow _; obtain ⟨g', cap', rfl⟩ := ownsRow_succ hown'; obtain ⟨hv1, hv2, hr2, hk2, hb2⟩ := hv.appended hne hrow hB.size (Nat.le_refl _) hown' hgrow; have hc1 := hv1.cell; have hf1 := hv1.frozen)
    exact ⟨hk2.from _, Keeps.of_below hb2 hG, ⟨_, hv2, by rw [rowP_snoc, List.length_append]; exact hr2, trivial⟩, hB.trans hb2⟩
  case done =>
    rintro D ys W hD rfl ⟨⟨v, hv, hrow, _⟩, hB⟩ hK
    have hc := hv.cell
    gi_wp2
    refine ⟨by simp, .inl ⟨_, _, rfl, run_takeDeferred hK, ?_⟩⟩
    exact ⟨_, results_tmp rfl _ _ _, v, rfl, ownsRow_putObj hrow _ hK rfl, hB.trans (belowK_b (w := w) (Nat.le_refl _) W D _ _ (by omega) hK rfl rfl)⟩
  case stop =>
    rintro D c pre W _ _ h _
    exact h.elim

set_option maxHeartbeats 1000000 in
theorem collect_seq (F : Fence) (n : Nat) (hc : F.fn 11) (hf : F.fn 21) (hro : F.round = none) (hn : 3 ≤ n) (g : Nat) (lb : Array Value) (hFg : F.fn g) (eg : ∀ args w, (callFunc g args).run Try.prog w = .ok (.enter g args) w)
    (G : Nat → Prop) (ps : List PairS) (w : World) (hG : ∀ k, G k → k < w.heap.size) (hN : ps.length ≤ 3518437208880) (hseq : GivesP F (n - 1 - 1) g lb G ps w) :
    CallsIn F n Try.prog 11 #[.func (.func g) #[] lb] w fun e W' => ∃ v, e = .returned v ∧ W'.ownsRow w.heap.size 29 3 v ps.length (rowP ps) ∧ Below w.heap.size w W' := by
  have h1 : 1 ≤ n := by omega
  refine callsIn_of_wp Try.func11 rfl hc ?_ hro
  simp only [Try.ntmps11, List.size_toArray, List.length_cons, List.length_nil, Nat.reduceAdd, Nat.reduceSub, Array.replicate_succ, Array.replicate_zero, List.push_toArray, List.append_toArray, List.nil_append, List.cons_append]
  gi_wp2_with (gi_at_call 21; refine (append_seq F (n - 1) hf hro (by omega) g lb hFg eg G ps _ hG hN hseq).mono ?_; rintro e w' ⟨v, rfl, hrow, hb⟩)
  go_ret
  exact ⟨v, rfl, hrow, hb⟩
/-- .. where nothing is fenced. -/
theorem collect_any (g : Nat) (lb : Array Value) (eg : ∀ args w, (callFunc g args).run Try.prog w = .ok (.enter g args) w) (G : Nat → Prop) (ps : List PairS) (w : World) (hG : ∀ k, G k → k < w.heap.size) (hN : ps.length ≤ 3518437208880) (hseq : GivesP Fence.wide 4 g lb G ps w) :
    Calls Try.prog 11 #[.func (.func g) #[] lb] w fun e W' => ∃ v, e = .returned v ∧ W'.ownsRow w.heap.size 29 3 v ps.length (rowP ps) ∧ Below w.heap.size w W' :=
  (callsIn_wide (n := 6)).1 (collect_seq Fence.wide 6 trivial trivial rfl (by omega) g lb trivial eg G ps w hG hN hseq)
end Go.Proofs.Ytebiipmaimdocaa

namespace Go.Proofs.Ytebiipmaimdocaa
open Go.RowKit Go.Shelf
set_option linter.unusedVariables false

theorem ownsRow_low {w : World} {base base' : Nat} {e : TypeId} {size : Nat} {v : Value} {n : Nat} {xs : List Value} (h : w.ownsRow base e size v n xs) (hb : base' ≤ base) : w.ownsRow base' e size v n xs := by
  obtain ⟨h1, h2⟩ := h
  refine ⟨h1, ?_⟩
  rcases h2 with h2 | ⟨g, cap, cur, a, b, c⟩
  · exact .inl h2
  · exact .inr ⟨g, cap, cur, a, Nat.le_trans hb b, c⟩
/-- The pair in its box. -/
def PairBox (W : World) (b : Nat) (x : PairS) : Prop := W.heap[b]? = some (.cells #[.string x.key, .string x.val, .bool x.gone] 29 (0, 0))
theorem PairBox.new (W : World) (x : PairS) : PairBox (W.alloc (.cells #[.string x.key, .string x.val, .bool x.gone] 29)) W.heap.size x := World.alloc_heap_new W _
theorem PairBox.c0 {W : World} {b : Nat} {x : PairS} (h : PairBox W b x) : W.cell? ⟨b, 0, none⟩ = some (.string x.key) := by rw [World.cell?, show W.heap[b]? = _ from h]; rfl
theorem PairBox.c1 {W : World} {b : Nat} {x : PairS} (h : PairBox W b x) : W.cell? ⟨b, 1, none⟩ = some (.string x.val) := by rw [World.cell?, show W.heap[b]? = _ from h]; rfl
theorem PairBox.c2 {W : World} {b : Nat} {x : PairS} (h : PairBox W b x) : W.cell? ⟨b, 2, none⟩ = some (.bool x.gone) := by rw [World.cell?, show W.heap[b]? = _ from h]; rfl

/-- What is known behind the loop, whichever way it was left. -/
def EndsP (G : Nat → Prop) (ps : List PairS) (I : List PairS → World → Prop) (Ix : Code → List PairS → World → Prop) (w : World) (n : Nat) (Q : Exit → Act → World → Prop) (a : Act) : Prop :=
  (∀ (D : Nat) (W : World), w.heap.size ≤ D → I ps W → W.heap[D]? = some (.deferred (some [])) → Q .normal { a with defers := { target := .collected D, args := #[] } :: a.defers } W) ∧
  ∀ (D : Nat) (c : Code) (pre : List PairS) (W : World), w.heap.size ≤ D → pre <+: ps → Ix c pre W → W.heap[D]? = some (.deferred (some [])) → c.wp Try.prog Q { a with defers := { target := .collected D, args := #[] } :: a.defers } W

/-- .. in a block that a break leaves. -/
theorem EndsP.block {G : Nat → Prop} {ps : List PairS} {I : List PairS → World → Prop} {Ix : Code → List PairS → World → Prop} {w : World} {n b : Nat} {R : Exit → Act → World → Prop} {a : Act} (J : World → Prop) (hI : ∀ W, I ps W → J W) (hIx : ∀ c pre W, pre <+: ps → Ix c pre W → c = .exit b ∧ J W)
    (hrest : ∀ (D : Nat) (W : World), w.heap.size ≤ D → J W → W.heap[D]? = some (.deferred (some [])) → R .normal { a with defers := { target := .collected D, args := #[] } :: a.defers } W) : EndsP G ps I Ix w n (Exit.inBlock b R) a := by
  refine ⟨fun D W hD hi hK => hrest D W hD (hI W hi) hK, fun D c pre W hD hp hi hK => ?_⟩
  obtain ⟨rfl, hj⟩ := hIx c pre W hp hi
  refine wp_exit ?_
  have := hrest D W hD hj hK
  simpa [Exit.inBlock] using this

theorem range_boxD {n : Nat} {g : Operand} {pa : Array Tmp} {assign body : Code} {Q : Exit → Act → World → Prop} {a : Act} {w w0 : World} (dec : PairS → PairS) (sx sb : Nat) (h1 : 1 ≤ n) {gf : Nat} {lb : Array Value} {G : Nat → Prop} {ps : List PairS}
    (hg : a.eval g = .func (.func gf) #[] lb) (eg : ∀ args w, (callFunc gf args).run Try.prog w = .ok (.enter gf args) w)
    (hseq : GivesD Fence.wide (n - 1) gf lb G dec ps w0) (hb0 : Below w0.heap.size w0 w) (hG : ∀ k, G k → k < w.heap.size) (hpa : pa.size = 1)
    (I : List PairS → World → Prop) (Ix : Code → List PairS → World → Prop) (hI : OwnFrom w.heap.size I) (hIx : ∀ c, OwnFrom w.heap.size (Ix c)) (h0 : I [] w)
    (hassign : ∀ (l : Nat) (pre : List PairS) (x : PairS) (W : World) (K : Act → World → Prop), I pre W →
      (∀ Bx W', w.heap.size ≤ Bx → PairBox W' Bx (dec x) → KeepsFrom w.heap.size W W' → Keeps G W W' → I pre W' → K { tmps := (a.tmps.setIfInBounds sx (dec x).val').setIfInBounds sb (.pointer (some ⟨Bx, 0, none⟩)), defers := [] } W') →
      assign.wpIn (Fence.wide.inRound l) (n - 1 - 1) Try.prog (Exit.then K (fun _ _ _ => False)) { tmps := (pa.zip #[(dec x).val']).foldl (fun t (p, v) => t.setIfInBounds p v) a.tmps, defers := [] } W)
    (hbody : ∀ (l : Nat) (pre : List PairS) (x : PairS) (Bx : Nat) (W : World), w.heap.size ≤ l → (∃ r, W.heap[l]? = some (.loop r)) → I pre W → w.heap.size ≤ Bx → PairBox W Bx (dec x) → pre.length < ps.length →
      body.wpIn (Fence.wide.inRound l) (n - 1 - 1) Try.prog (ownPostG w.heap.size (Keeps G) I Ix (pre ++ [x]) W) { tmps := (a.tmps.setIfInBounds sx (dec x).val').setIfInBounds sb (.pointer (some ⟨Bx, 0, none⟩)), defers := [] } W)
    (hend : EndsP G ps I Ix w n Q a) :
    (Code.rangeFunc g pa assign body).wp Try.prog Q a w := by
  refine (wpIn_wide (n := n)).1 ?_
  refine wpIn_rangeFunc_ownH rfl h1 (gf := gf) (lb := lb) hg trivial eg hseq (fun {A B C} => Keeps.trans) (fun W l o o' hl => Keeps.put hG W l o o' (by omega)) hb0 (fun _ => hpa.symm) I Ix hI hIx h0
    (fun x a' W => ∃ Bx, w.heap.size ≤ Bx ∧ PairBox W Bx (dec x) ∧ a' = { tmps := (a.tmps.setIfInBounds sx (dec x).val').setIfInBounds sb (.pointer (some ⟨Bx, 0, none⟩)), defers := [] }) ?hAx ?assign ?body ?done ?stop
  case hAx =>
    rintro x a' _ W W' row ⟨Bx, h1, h2, h3⟩ hg hr
    refine ⟨Bx, h1, (hg.block Bx (Array.getElem?_eq_some_iff.1 h2).1 (fun e => ?_)).trans h2, h3⟩
    obtain ⟨_, o, ho, hc⟩ := hr Bx e.symm
    rw [show W.heap[Bx]? = _ from h2] at ho
    cases ho
    cases hc
  case assign =>
    intro l pre x W K hi hK
    exact hassign l pre x W K hi fun Bx W' g1 g2 g3 g4 g5 => hK _ _ g3 g4 g5 ⟨Bx, g1, g2, rfl⟩
  case body =>
    rintro l pre x a' W hl hr hi ⟨Bx, g1, g2, rfl⟩ hlt
    exact hbody l pre x Bx W hl hr hi g1 g2 hlt
  case done =>
    rintro D xs W hD rfl hi hK
    exact hend.1 D W hD hi hK
  case stop =>
    intro D c pre W hD hp hi hK
    exact wpIn_wide.2 (hend.2 D c pre W hD hp hi hK)
theorem range_boxP {n : Nat} {g : Operand} {pa : Array Tmp} {assign body : Code} {Q : Exit → Act → World → Prop} {a : Act} {w w0 : World} (sx sb : Nat) (h1 : 1 ≤ n) {gf : Nat} {lb : Array Value} {G : Nat → Prop} {ps : List PairS}
    (hg : a.eval g = .func (.func gf) #[] lb) (eg : ∀ args w, (callFunc gf args).run Try.prog w = .ok (.enter gf args) w)
    (hseq : GivesP Fence.wide (n - 1) gf lb G ps w0) (hb0 : Below w0.heap.size w0 w) (hG : ∀ k, G k → k < w.heap.size) (hpa : pa.size = 1)
    (I : List PairS → World → Prop) (Ix : Code → List PairS → World → Prop) (hI : OwnFrom w.heap.size I) (hIx : ∀ c, OwnFrom w.heap.size (Ix c)) (h0 : I [] w)
    (hassign : ∀ (l : Nat) (pre : List PairS) (x : PairS) (W : World) (K : Act → World → Prop), I pre W →
      (∀ Bx W', w.heap.size ≤ Bx → PairBox W' Bx x → KeepsFrom w.heap.size W W' → Keeps G W W' → I pre W' → K { tmps := (a.tmps.setIfInBounds sx x.val').setIfInBounds sb (.pointer (some ⟨Bx, 0, none⟩)), defers := [] } W') →
      assign.wpIn (Fence.wide.inRound l) (n - 1 - 1) Try.prog (Exit.then K (fun _ _ _ => False)) { tmps := (pa.zip #[x.val']).foldl (fun t (p, v) => t.setIfInBounds p v) a.tmps, defers := [] } W)
    (hbody : ∀ (l : Nat) (pre : List PairS) (x : PairS) (Bx : Nat) (W : World), w.heap.size ≤ l → (∃ r, W.heap[l]? = some (.loop r)) → I pre W → w.heap.size ≤ Bx → PairBox W Bx x → pre.length < ps.length →
      body.wpIn (Fence.wide.inRound l) (n - 1 - 1) Try.prog (ownPostG w.heap.size (Keeps G) I Ix (pre ++ [x]) W) { tmps := (a.tmps.setIfInBounds sx x.val').setIfInBounds sb (.pointer (some ⟨Bx, 0, none⟩)), defers := [] } W)
    (hend : EndsP G ps I Ix w n Q a) :
    (Code.rangeFunc g pa assign body).wp Try.prog Q a w :=
  range_boxD id sx sb h1 hg eg hseq hb0 hG hpa I Ix hI hIx h0 hassign hbody hend
end Go.Proofs.Ytebiipmaimdocaa

namespace Go.Proofs.Ytebiipmaimdocaa
open Go.RowKit
set_option linter.unusedVariables false

/-- Is a key before another one? -/
def befB (a b : ByteArray) : Bool := Op.bytesLess a.toList b.toList
theorem less_lt : ∀ a b : List UInt8, Op.bytesLess a b = true ↔ a < b
  | [], [] => by simp [Op.bytesLess]
  | [], _ :: _ => by simp [Op.bytesLess]
  | _ :: _, [] => by simp [Op.bytesLess]
  | a :: r, b :: s => by
    rw [List.cons_lt_cons_iff, ← less_lt r s]
    simp [Op.bytesLess]
theorem befB_lt (a b : ByteArray) : befB a b = true ↔ a.data.toList < b.data.toList := by
  unfold befB
  rw [ByteArray.toList_eq, ByteArray.toList_eq, less_lt]
/-- Where a key stands, or would stand. -/
def placeP (k : ByteArray) : List PairS → Nat
  | [] => 0
  | y :: r => if befB y.key k then placeP k r + 1 else 0
/-- Is a pair of this key there, where it would stand? -/
def thereP (k : ByteArray) (l : List PairS) : Bool := match l[placeP k l]? with | some y => decide (y.key = k) | none => false
/-- The pair of this key, if it is there. -/
def getP (k : ByteArray) (l : List PairS) : Option PairS := if thereP k l then l[placeP k l]? else none
def fromP (k : ByteArray) (l : List PairS) : List PairS := l.drop (placeP k l)
/-- A pair, put where it belongs. -/
def putP (p : PairS) (l : List PairS) : List PairS := l.take (placeP p.key l) ++ p :: l.drop (placeP p.key l + if thereP p.key l then 1 else 0)
def sizeP (l : List PairS) : Nat := (l.map fun p => p.key.size + p.val.size).sum
def zeroP : PairS := ⟨⟨#[]⟩, ⟨#[]⟩, false⟩
/-- The error of a pair. -/
def wrongP (p : PairS) : Nat :=
  if p.key.size = 0 ∨ (p.gone = true ∧ p.val.size ≠ 0) then 1 else if 64 < p.key.size ∨ 8192 < p.val.size then 2 else 0
/-- In the order of the keys, each once. -/
def RisingP (l : List PairS) : Prop := l.Pairwise fun a b => befB a.key b.key = true

theorem befB_irrefl (a : ByteArray) : befB a a = false := by
  cases h : befB a a with
  | false => rfl
  | true => exact absurd ((befB_lt _ _).1 h) (List.lt_irrefl _)
theorem befB_asymm {a b : ByteArray} (h : befB a b = true) : befB b a = false := by
  cases h2 : befB b a with
  | false => rfl
  | true => exact absurd (List.lt_trans ((befB_lt _ _).1 h) ((befB_lt _ _).1 h2)) (List.lt_irrefl _)
theorem befB_trans {a b c : ByteArray} (h : befB a b = true) (k : befB b c = true) : befB a c = true := (befB_lt _ _).2 (List.lt_trans ((befB_lt _ _).1 h) ((befB_lt _ _).1 k))
theorem befB_total {a b : ByteArray} (h : a ≠ b) (h2 : befB a b = false) : befB b a = true := by
  rw [befB_lt]
  have h3 : ¬ a.data.toList < b.data.toList := fun hl => by rw [(befB_lt a b).2 hl] at h2; cases h2
  rcases Classical.em (b.data.toList < a.data.toList) with h4 | h4
  · exact h4
  · exact absurd (ByteArray.ext (Array.toList_inj.1 (List.le_antisymm (List.not_lt.1 h4) (List.not_lt.1 h3)))) h

theorem keyEq (a b : ByteArray) : (a.toList == b.toList) = decide (a = b) := by
  rw [ByteArray.toList_eq, ByteArray.toList_eq]
  by_cases h : a = b
  · subst h; simp
  · have h2 : ¬ a.data = b.data := fun e => h (ByteArray.ext e)
    simp [h, h2]
theorem sizeP_append (a b : List PairS) : sizeP (a ++ b) = sizeP a + sizeP b := by simp [sizeP]
theorem sizeP_cons (x : PairS) (l : List PairS) : sizeP (x :: l) = x.key.size + x.val.size + sizeP l := by simp [sizeP]
theorem sizeP_take (l : List PairS) (i : Nat) : sizeP (l.take i) ≤ sizeP l := by
  have := sizeP_append (l.take i) (l.drop i)
  rw [List.take_append_drop] at this
  omega
theorem sizeP_drop (l : List PairS) (i : Nat) : sizeP (l.drop i) ≤ sizeP l := by
  have := sizeP_append (l.take i) (l.drop i)
  rw [List.take_append_drop] at this
  omega
theorem sizeP_next {l : List PairS} {i : Nat} (h : i < l.length) : sizeP (l.take (i + 1)) = sizeP (l.take i) + (l[i].key.size + l[i].val.size) := by
  rw [← List.take_append_getElem h, sizeP_append, sizeP_cons]
  simp [sizeP]
theorem placeP_cons (k : ByteArray) (y : PairS) (r : List PairS) : placeP k (y :: r) = if befB y.key k then placeP k r + 1 else 0 := rfl
theorem placeP_le (k : ByteArray) (l : List PairS) : placeP k l ≤ l.length := by
  induction l with
  | nil => simp [placeP]
  | cons y r ih => unfold placeP; split <;> simp <;> omega
theorem placeP_of {k : ByteArray} {l : List PairS} {i : Nat} (hi : i ≤ l.length) (h1 : ∀ j (h : j < l.length), j < i → befB l[j].key k = true) (h2 : ∀ h : i < l.length, befB l[i].key k = false) : placeP k l = i := by
  induction l generalizing i with
  | nil => simp at hi; subst hi; rfl
  | cons y r ih =>
    unfold placeP
    cases i with
    | zero =>
      have := h2 (by simp)
      simp only [List.getElem_cons_zero] at this
      rw [this]; rfl
    | succ i =>
      have := h1 0 (by simp) (by omega)
      simp only [List.getElem_cons_zero] at this
      rw [if_pos this, ih (by simpa using hi) (fun j h hj => by have := h1 (j + 1) (by simpa using h) (by omega); simpa using this) (fun h => by have := h2 (by simpa using h); simpa using this)]
theorem placeP_before {k : ByteArray} : ∀ {l : List PairS} {j : Nat} (h : j < l.length), j < placeP k l → befB l[j].key k = true
  | [], _, h, _ => absurd h (by simp)
  | y :: r, j, h, hj => by
    unfold placeP at hj
    split at hj
    · rename_i hy
      cases j with
      | zero => exact hy
      | succ j => exact placeP_before (l := r) (by simpa using h) (by omega)
    · omega
theorem placeP_at {k : ByteArray} : ∀ {l : List PairS} (h : placeP k l < l.length), befB l[placeP k l].key k = false
  | [], h => absurd h (by simp)
  | y :: r, h => by
    by_cases hy : befB y.key k = true
    · have e : placeP k (y :: r) = placeP k r + 1 := by rw [placeP_cons, if_pos hy]
      have hl : placeP k r < r.length := by rw [e] at h; simpa using h
      have := placeP_at hl
      simp only [e, List.getElem_cons_succ]
      exact this
    · have e : placeP k (y :: r) = 0 := by rw [placeP_cons, if_neg hy]
      simp only [e, List.getElem_cons_zero]
      simpa using hy
theorem thereP_lt {k : ByteArray} {l : List PairS} (h : thereP k l = true) : ∃ h : placeP k l < l.length, l[placeP k l].key = k := by
  unfold thereP at h
  split at h
  · rename_i y hy
    obtain ⟨h1, h2⟩ := List.getElem?_eq_some_iff.1 hy
    exact ⟨h1, by rw [h2]; simpa using h⟩
  · cases h
theorem thereP_of {k : ByteArray} {l : List PairS} {i : Nat} (hi : i < l.length) (hp : placeP k l = i) : thereP k l = decide (l[i].key = k) := by
  unfold thereP
  rw [hp, List.getElem?_eq_getElem hi]
theorem thereP_none {k : ByteArray} {l : List PairS} (hp : placeP k l = l.length) : thereP k l = false := by
  unfold thereP
  rw [hp, List.getElem?_eq_none (Nat.le_refl _)]

theorem rowP_append (a b : List PairS) : rowP (a ++ b) = rowP a ++ rowP b := by simp [rowP]
theorem rowP_cons (x : PairS) (l : List PairS) : rowP (x :: l) = [.string x.key, .string x.val, .bool x.gone] ++ rowP l := rfl
theorem rowP_take (l : List PairS) (k : Nat) : (rowP l).take (k * 3) = rowP (l.take k) := by
  induction l generalizing k with
  | nil => simp [rowP]
  | cons x r ih =>
    cases k with
    | zero => simp [rowP]
    | succ k =>
      rw [rowP_cons, List.take_succ_cons, rowP_cons, show (k + 1) * 3 = [Value.string x.key, .string x.val, .bool x.gone].length + k * 3 by simp; omega, List.take_length_add_append, ih]
theorem rowP_drop (l : List PairS) (k : Nat) : (rowP l).drop (k * 3) = rowP (l.drop k) := by
  induction l generalizing k with
  | nil => simp [rowP]
  | cons x r ih =>
    cases k with
    | zero => simp [rowP]
    | succ k =>
      rw [rowP_cons, List.drop_succ_cons, show (k + 1) * 3 = [Value.string x.key, .string x.val, .bool x.gone].length + k * 3 by simp; omega, List.drop_length_add_append, ih]
theorem rowP_at : ∀ (l : List PairS) (i : Nat) (h : i < l.length), (rowP l)[i * 3]? = some (.string l[i].key) ∧ (rowP l)[i * 3 + 1]? = some (.string l[i].val) ∧ (rowP l)[i * 3 + 2]? = some (.bool l[i].gone)
  | x :: r, 0, _ => ⟨rfl, rfl, rfl⟩
  | x :: r, i + 1, h => by
    have hi : i < r.length := by simpa using h
    have := rowP_at r i hi
    rw [rowP_cons]
    refine ⟨?_, ?_, ?_⟩
    · rw [List.getElem?_append_right (by simp; omega)]
      show (rowP r)[(i + 1) * 3 - 3]? = some (.string r[i].key)
      rw [show (i + 1) * 3 - 3 = i * 3 by omega]; exact this.1
    · rw [List.getElem?_append_right (by simp; omega)]
      show (rowP r)[(i + 1) * 3 + 1 - 3]? = some (.string r[i].val)
      rw [show (i + 1) * 3 + 1 - 3 = i * 3 + 1 by omega]; exact this.2.1
    · rw [List.getElem?_append_right (by simp; omega)]
      show (rowP r)[(i + 1) * 3 + 2 - 3]? = some (.bool r[i].gone)
      rw [show (i + 1) * 3 + 2 - 3 = i * 3 + 2 by omega]; exact this.2.2
theorem rowP_one (l : List PairS) : ∀ u ∈ rowP l, u.oneCell' = true := by
  intro u hu
  unfold rowP PairS.cells at hu
  obtain ⟨x, _, hx⟩ := List.mem_flatMap.1 hu
  simp only [List.mem_cons, List.not_mem_nil, or_false] at hx
  rcases hx with rfl | rfl | rfl <;> rfl

theorem putP_len (p : PairS) (l : List PairS) : (putP p l).length ≤ l.length + 1 := by
  have := placeP_le p.key l
  unfold putP
  rw [List.length_append, List.length_take, List.length_cons, List.length_drop]
  split <;> omega
theorem mem_putP {p q : PairS} {l : List PairS} (h : q ∈ putP p l) : q = p ∨ q ∈ l := by
  unfold putP at h
  rcases List.mem_append.1 h with h | h
  · exact .inr (List.mem_of_mem_take h)
  · rcases List.mem_cons.1 h with h | h
    · exact .inl h
    · exact .inr (List.mem_of_mem_drop h)
theorem putP_rising {p : PairS} {l : List PairS} (h : RisingP l) : RisingP (putP p l) := by
  have h3 : ∀ b ∈ l.drop (placeP p.key l + if thereP p.key l then 1 else 0), befB p.key b.key = true := by
    intro b hb
    obtain ⟨i, hi⟩ := List.mem_iff_getElem?.1 hb
    rw [List.getElem?_drop] at hi
    obtain ⟨h4, h5⟩ := List.getElem?_eq_some_iff.1 hi
    have hpl : placeP p.key l < l.length := by omega
    by_cases he : placeP p.key l = placeP p.key l + (if thereP p.key l then 1 else 0) + i
    · have ht : thereP p.key l = false := by
        cases ht : thereP p.key l with
        | false => rfl
        | true => rw [ht] at he; simp at he; omega
      rw [thereP_of hpl rfl] at ht
      have h6 : l[placeP p.key l] = b := by
        simp only [← he] at h5
        exact h5
      rw [h6] at ht
      have h7 := placeP_at hpl
      rw [h6] at h7
      exact befB_total (by simpa using ht) h7
    · have h6 := List.pairwise_iff_getElem.1 h _ _ hpl h4 (by omega)
      rw [h5] at h6
      have h7 := placeP_at hpl
      by_cases h8 : l[placeP p.key l].key = p.key
      · rw [h8] at h6; exact h6
      · exact befB_trans (befB_total h8 h7) h6
  unfold RisingP putP
  rw [List.pairwise_append]
  refine ⟨h.sublist (List.take_sublist _ _), List.pairwise_cons.2 ⟨h3, h.sublist (List.drop_sublist _ _)⟩, fun a ha b hb => ?_⟩
  obtain ⟨i, hi⟩ := List.mem_iff_getElem?.1 ha
  rw [List.getElem?_take] at hi
  split at hi
  · rename_i hl
    obtain ⟨h4, h5⟩ := List.getElem?_eq_some_iff.1 hi
    have hap := placeP_before h4 hl
    rw [h5] at hap
    rcases List.mem_cons.1 hb with rfl | hb
    · exact hap
    · exact befB_trans hap (h3 b hb)
  · cases hi
end Go.Proofs.Ytebiipmaimdocaa

namespace Go.Proofs.Ytebiipmaimdocaa
open Go.RowKit Go.Maps Go.WideMaps
set_option linter.unusedVariables false

/-- What a Put makes of the pairs, whatever the pair. -/
def putIf (x : PairS) (l : List PairS) : List PairS := if wrongP x = 0 then putP x l else l
theorem bef_ab : befB ⟨#[97]⟩ ⟨#[98]⟩ = true := (befB_lt _ _).2 (by decide)
theorem bef_ba : befB ⟨#[98]⟩ ⟨#[97]⟩ = false := befB_asymm bef_ab
theorem bef_nil (k : ByteArray) : befB k ⟨#[]⟩ = false := by
  cases h : befB k ⟨#[]⟩ with
  | false => rfl
  | true =>
    have := (befB_lt _ _).1 h
    exact absurd this (by simp)
theorem from_nil (l : List PairS) : fromP ⟨#[]⟩ l = l := by
  have e : placeP ⟨#[]⟩ l = 0 := by
    cases l with
    | nil => rfl
    | cons y r => rw [placeP_cons, bef_nil]; rfl
  unfold fromP
  rw [e]; rfl
/-- What the first pairs make of a table. -/
def putsP (ps : List PairS) : List PairS := ps.foldl (fun l x => putIf x l) []
theorem putsP_snoc (ps : List PairS) (x : PairS) : putsP (ps ++ [x]) = putIf x (putsP ps) := by simp [putsP]
theorem putsP_next {ps : List PairS} {k : Nat} (h : k < ps.length) : putsP (ps.take (k + 1)) = putIf ps[k] (putsP (ps.take k)) := by
  rw [List.take_succ_eq_append_getElem h, putsP_snoc]
theorem putIf_len (x : PairS) (l : List PairS) : (putIf x l).length ≤ l.length + 1 := by
  unfold putIf
  split
  · exact putP_len x l
  · omega
theorem putIf_size (x : PairS) (l : List PairS) : sizeP (putIf x l) ≤ sizeP l + (x.key.size + x.val.size) := by
  unfold putIf
  split
  · unfold putP
    rw [sizeP_append, sizeP_cons]
    have h1 : sizeP (l.take (placeP x.key l)) + sizeP (l.drop (placeP x.key l)) = sizeP l := by rw [← sizeP_append, List.take_append_drop]
    have h2 : sizeP (l.drop (placeP x.key l + if thereP x.key l then 1 else 0)) ≤ sizeP (l.drop (placeP x.key l)) := by
      rw [← List.drop_drop]
      exact sizeP_drop _ _
    omega
  · omega
theorem putIf_rising {x : PairS} {l : List PairS} (h : RisingP l) : RisingP (putIf x l) := by
  unfold putIf
  split
  · exact putP_rising h
  · exact h
theorem putsP_len : ∀ (ps : List PairS) (k : Nat), (putsP (ps.take k)).length ≤ k
  | ps, 0 => by simp [putsP]
  | ps, k + 1 => by
    have ih := putsP_len ps k
    by_cases h : k < ps.length
    · rw [putsP_next h]
      have := putIf_len ps[k] (putsP (ps.take k))
      omega
    · have e : ps.take (k + 1) = ps.take k := by rw [List.take_of_length_le (by omega), List.take_of_length_le (by omega)]
      rw [e]; omega
theorem putsP_size : ∀ (ps : List PairS) (k : Nat), sizeP (putsP (ps.take k)) ≤ sizeP (ps.take k)
  | ps, 0 => by simp [putsP, sizeP]
  | ps, k + 1 => by
    have ih := putsP_size ps k
    by_cases h : k < ps.length
    · rw [putsP_next h, sizeP_next h]
      have := putIf_size ps[k] (putsP (ps.take k))
      omega
    · have e : ps.take (k + 1) = ps.take k := by rw [List.take_of_length_le (by omega), List.take_of_length_le (by omega)]
      rw [e]; exact ih
/-- Each pair is one that may be. -/
def FineP (l : List PairS) : Prop := ∀ x ∈ l, wrongP x = 0
theorem FineP.size {l : List PairS} (h : FineP l) : sizeP l ≤ 8256 * l.length := by
  induction l with
  | nil => simp [sizeP]
  | cons x r ih =>
    have h1 := ih (fun y hy => h y (List.mem_cons_of_mem _ hy))
    have h2 := h x (List.mem_cons_self ..)
    have h3 : ¬ (64 < x.key.size ∨ 8192 < x.val.size) := fun h3 => by
      unfold wrongP at h2
      split at h2
      · cases h2
      · first | (rw [if_pos h3] at h2; cases h2) | exact absurd h2 (by decide)
    rw [sizeP_cons, List.length_cons]
    omega
theorem putIf_fine {x : PairS} {l : List PairS} (h : FineP l) : FineP (putIf x l) := by
  unfold putIf
  split
  · rename_i hx
    intro y hy
    unfold putP at hy
    rcases List.mem_append.1 hy with hy | hy
    · exact h y (List.mem_of_mem_take hy)
    · rcases List.mem_cons.1 hy with rfl | hy
      · exact hx
      · exact h y (List.mem_of_mem_drop hy)
  · exact h
theorem puts_fine : ∀ (ps l : List PairS), FineP l → FineP (ps.foldl (fun l x => putIf x l) l)
  | [], _, h => h
  | x :: r, l, h => puts_fine r (putIf x l) (putIf_fine h)
theorem putsP_fine (ps : List PairS) : FineP (putsP ps) := puts_fine ps [] (fun _ h => by cases h)
theorem putsP_rising : ∀ (ps : List PairS) (k : Nat), RisingP (putsP (ps.take k))
  | ps, 0 => List.Pairwise.nil
  | ps, k + 1 => by
    by_cases h : k < ps.length
    · rw [putsP_next h]
      exact putIf_rising (putsP_rising ps k)
    · have e : ps.take (k + 1) = ps.take k := by rw [List.take_of_length_le (by omega), List.take_of_length_le (by omega)]
      rw [e]; exact putsP_rising ps k
end Go.Proofs.Ytebiipmaimdocaa

namespace Go.Proofs.Ytebiipmaimdocaa
open Go.RowKit
set_option linter.unusedVariables false

theorem place_key {l : List PairS} (h : RisingP l) {i : Nat} (hi : i < l.length) : placeP l[i].key l = i :=
  placeP_of (Nat.le_of_lt hi) (fun j hj hji => List.pairwise_iff_getElem.1 h j i hj hi hji) (fun _ => befB_irrefl _)
theorem getP_at {l : List PairS} (h : RisingP l) {i : Nat} (hi : i < l.length) : getP l[i].key l = some l[i] := by
  unfold getP
  rw [thereP_of hi (place_key h hi), place_key h hi]
  simp [hi]
theorem getP_iff {l : List PairS} (h : RisingP l) (k : ByteArray) (y : PairS) : getP k l = some y ↔ y ∈ l ∧ y.key = k := by
  constructor
  · intro hg
    unfold getP at hg
    split at hg
    · rename_i ht
      obtain ⟨hl, hk⟩ := thereP_lt ht
      rw [List.getElem?_eq_getElem hl] at hg
      injection hg with hg
      subst hg
      exact ⟨List.getElem_mem hl, hk⟩
    · cases hg
  · rintro ⟨hm, rfl⟩
    obtain ⟨i, hi, rfl⟩ := List.mem_iff_getElem.1 hm
    exact getP_at h hi
theorem rising_one {l : List PairS} (h : RisingP l) {x y : PairS} (hx : x ∈ l) (hy : y ∈ l) (e : x.key = y.key) : x = y := by
  have h1 := (getP_iff h x.key x).2 ⟨hx, rfl⟩
  rw [e, (getP_iff h y.key y).2 ⟨hy, rfl⟩] at h1
  injection h1 with h1
  exact h1.symm
theorem mem_putP_iff {l : List PairS} (h : RisingP l) (x y : PairS) : y ∈ putP x l ↔ y = x ∨ (y ∈ l ∧ y.key ≠ x.key) := by
  have hx : x ∈ putP x l := by unfold putP; exact List.mem_append_right _ (List.mem_cons_self ..)
  constructor
  · intro hy
    by_cases e : y.key = x.key
    · exact .inl (rising_one (putP_rising h) hy hx e)
    · rcases mem_putP hy with rfl | hm
      · exact .inl rfl
      · exact .inr ⟨hm, e⟩
  · rintro (rfl | ⟨hm, e⟩)
    · exact hx
    · obtain ⟨i, hi, rfl⟩ := List.mem_iff_getElem.1 hm
      unfold putP
      by_cases hlt : i < placeP x.key l
      · refine List.mem_append_left _ (List.mem_iff_getElem.2 ⟨i, by rw [List.length_take]; omega, ?_⟩)
        rw [List.getElem_take]
      · refine List.mem_append_right _ (List.mem_cons_of_mem _ ?_)
        have hd : placeP x.key l + (if thereP x.key l then 1 else 0) ≤ i := by
          split
          · rename_i ht
            obtain ⟨hl, hk⟩ := thereP_lt ht
            have : i ≠ placeP x.key l := fun c => e (by subst c; exact hk)
            omega
          · omega
        refine List.mem_iff_getElem.2 ⟨i - (placeP x.key l + (if thereP x.key l then 1 else 0)), by rw [List.length_drop]; omega, ?_⟩
        rw [List.getElem_drop]
        congr 1
        omega
theorem getP_putP {l : List PairS} (h : RisingP l) (x : PairS) (k : ByteArray) : getP k (putP x l) = if k = x.key then some x else getP k l := by
  have hr := putP_rising (p := x) h
  split
  · rename_i e
    exact (getP_iff hr k x).2 ⟨(mem_putP_iff h x x).2 (.inl rfl), e.symm⟩
  · rename_i e
    cases hg : getP k l with
    | some y =>
      obtain ⟨h1, h2⟩ := (getP_iff h k y).1 hg
      exact (getP_iff hr k y).2 ⟨(mem_putP_iff h x y).2 (.inr ⟨h1, fun c => e (by rw [← h2, c])⟩), h2⟩
    | none =>
      cases hp : getP k (putP x l) with
      | none => rfl
      | some y =>
        obtain ⟨h1, h2⟩ := (getP_iff hr k y).1 hp
        rcases (mem_putP_iff h x y).1 h1 with rfl | ⟨h3, h4⟩
        · exact absurd h2.symm e
        · rw [(getP_iff h k y).2 ⟨h3, h2⟩] at hg; cases hg
theorem putP_length (x : PairS) (l : List PairS) : (putP x l).length = if (getP x.key l).isSome then l.length else l.length + 1 := by
  have hle := placeP_le x.key l
  unfold putP getP
  by_cases ht : thereP x.key l = true
  · obtain ⟨hl, _⟩ := thereP_lt ht
    rw [if_pos ht, if_pos ht, List.getElem?_eq_getElem hl]
    simp
    omega
  · rw [if_neg ht, if_neg ht]
    simp
    omega

/-- Rising lists with the same members are the same. -/
theorem rising_ext : ∀ {a b : List PairS}, RisingP a → RisingP b → (∀ x, x ∈ a ↔ x ∈ b) → a = b
  | [], [], _, _, _ => rfl
  | [], y :: s, _, _, h => absurd ((h y).2 (List.mem_cons_self ..)) (by simp)
  | x :: r, [], _, _, h => absurd ((h x).1 (List.mem_cons_self ..)) (by simp)
  | x :: r, y :: s, ha, hb, h => by
    obtain ⟨a1, a2⟩ := List.pairwise_cons.1 ha
    obtain ⟨b1, b2⟩ := List.pairwise_cons.1 hb
    have e : x = y := by
      rcases List.mem_cons.1 ((h x).1 (List.mem_cons_self ..)) with e | hx
      · exact e
      · rcases List.mem_cons.1 ((h y).2 (List.mem_cons_self ..)) with e | hy
        · exact e.symm
        · have h1 := b1 x hx
          have h2 := a1 y hy
          rw [befB_asymm h1] at h2
          cases h2
    subst e
    rw [rising_ext a2 b2 (fun z => ?_)]
    have nr : ∀ {l : List PairS}, (∀ z ∈ l, befB x.key z.key = true) → x ∉ l := fun hl hx => by have := hl x hx; rw [befB_irrefl] at this; cases this
    constructor
    · intro hz
      rcases List.mem_cons.1 ((h z).1 (List.mem_cons_of_mem _ hz)) with rfl | hz'
      · exact absurd hz (nr a1)
      · exact hz'
    · intro hz
      rcases List.mem_cons.1 ((h z).2 (List.mem_cons_of_mem _ hz)) with rfl | hz'
      · exact absurd hz (nr b1)
      · exact hz'

/-- No key comes twice. -/
def Unlike (l : List PairS) : Prop := l.Pairwise fun a b => a.key ≠ b.key
theorem puts_mem (x : PairS) : ∀ (ps l : List PairS), RisingP l → Unlike ps → (∀ a ∈ ps, ∀ y ∈ l, a.key ≠ y.key) → (x ∈ ps.foldl (fun l x => putIf x l) l ↔ x ∈ l ∨ (x ∈ ps ∧ wrongP x = 0))
  | [], l, _, _, _ => by simp
  | a :: r, l, hl, hu, hd => by
    obtain ⟨u1, u2⟩ := List.pairwise_cons.1 hu
    have hm : ∀ y, y ∈ putIf a l ↔ y ∈ l ∨ (y = a ∧ wrongP a = 0) := fun y => by
      unfold putIf
      split
      · rename_i hw
        rw [mem_putP_iff hl]
        constructor
        · rintro (rfl | ⟨h1, _⟩)
          · exact .inr ⟨rfl, hw⟩
          · exact .inl h1
        · rintro (h1 | ⟨rfl, _⟩)
          · exact .inr ⟨h1, fun e => hd a (List.mem_cons_self ..) y h1 e.symm⟩
          · exact .inl rfl
      · rename_i hw
        constructor
        · exact .inl
        · rintro (h1 | ⟨_, h2⟩)
          · exact h1
          · exact absurd h2 hw
    rw [List.foldl_cons, puts_mem x r (putIf a l) (putIf_rising hl) u2 (fun b hb y hy => by
      rcases (hm y).1 hy with h1 | ⟨rfl, _⟩
      · exact hd b (List.mem_cons_of_mem _ hb) y h1
      · exact fun e => u1 b hb e.symm), hm]
    constructor
    · rintro ((h1 | ⟨rfl, h2⟩) | ⟨h1, h2⟩)
      · exact .inl h1
      · exact .inr ⟨List.mem_cons_self .., h2⟩
      · exact .inr ⟨List.mem_cons_of_mem _ h1, h2⟩
    · rintro (h1 | ⟨h1, h2⟩)
      · exact .inl (.inl h1)
      · rcases List.mem_cons.1 h1 with rfl | h1
        · exact .inl (.inr ⟨rfl, h2⟩)
        · exact .inr ⟨h1, h2⟩
theorem putsP_mem {ps : List PairS} (hu : Unlike ps) (x : PairS) : x ∈ putsP ps ↔ x ∈ ps ∧ wrongP x = 0 := by
  have := puts_mem x ps [] List.Pairwise.nil hu (fun _ _ _ h => by cases h)
  unfold putsP
  simpa using this
theorem putsP_rise (ps : List PairS) : RisingP (putsP ps) := by
  have := putsP_rising ps ps.length
  rwa [List.take_length] at this
/-- Pairs of unlike keys, in whichever order they are put. -/
theorem putsP_order {a b : List PairS} (ha : Unlike a) (hb : Unlike b) (h : ∀ x, x ∈ a ↔ x ∈ b) : putsP a = putsP b :=
  rising_ext (putsP_rise a) (putsP_rise b) fun x => by rw [putsP_mem ha, putsP_mem hb, h]

/-- The first of each key. -/
def hasK (k : ByteArray) (l : List PairS) : Bool := l.any fun y => decide (y.key = k)
def addP (l : List PairS) (x : PairS) : List PairS := if hasK x.key l then l else l ++ [x]
def firstsP (ps : List PairS) : List PairS := ps.foldl addP []
theorem firstsP_next {ps : List PairS} {k : Nat} (h : k < ps.length) : firstsP (ps.take (k + 1)) = addP (firstsP (ps.take k)) ps[k] := by
  unfold firstsP
  rw [List.take_succ_eq_append_getElem h, List.foldl_append]
  rfl
theorem addP_len (l : List PairS) (x : PairS) : (addP l x).length ≤ l.length + 1 := by
  unfold addP
  split
  · omega
  · simp
theorem addP_unlike {l : List PairS} (x : PairS) (h : Unlike l) : Unlike (addP l x) := by
  unfold addP
  split
  · exact h
  · rename_i hn
    refine List.pairwise_append.2 ⟨h, List.pairwise_singleton _ _, fun a ha b hb => ?_⟩
    rcases List.mem_singleton.1 hb with rfl
    intro e
    exact hn (List.any_eq_true.2 ⟨a, ha, by simpa using e⟩)
theorem firsts_unlike : ∀ (ps l : List PairS), Unlike l → Unlike (ps.foldl addP l)
  | [], _, h => h
  | x :: r, l, h => firsts_unlike r (addP l x) (addP_unlike x h)
theorem firstsP_unlike (ps : List PairS) : Unlike (firstsP ps) := firsts_unlike ps [] List.Pairwise.nil
theorem firstsP_len : ∀ (ps : List PairS) (k : Nat), (firstsP (ps.take k)).length ≤ k
  | ps, 0 => by simp [firstsP]
  | ps, k + 1 => by
    have ih := firstsP_len ps k
    by_cases h : k < ps.length
    · rw [firstsP_next h]
      have := addP_len (firstsP (ps.take k)) ps[k]
      omega
    · have e : ps.take (k + 1) = ps.take k := by rw [List.take_of_length_le (by omega), List.take_of_length_le (by omega)]
      rw [e]; omega
theorem hasK_add (k : ByteArray) (l : List PairS) (x : PairS) : hasK k (addP l x) = (hasK k l || decide (x.key = k)) := by
  unfold addP
  split
  · rename_i h
    by_cases e : x.key = k
    · subst e; rw [h]; rfl
    · simp [e]
  · simp [hasK]

/-- Where the i-th put of the other order comes from. -/
def backAt (n : Nat) (t : Int) (i : Nat) : Nat := n - 1 - (((i : Int) + t) % (n : Int)).toNat
def turnedP (l : List PairS) (t : Int) (m : Nat) : List PairS := (List.range m).map fun i => l.getD (backAt l.length t i) zeroP
theorem backAt_lt {n : Nat} (h : 0 < n) (t : Int) (i : Nat) : backAt n t i < n := by unfold backAt; omega
theorem turnedP_next (l : List PairS) (t : Int) (m : Nat) : turnedP l t (m + 1) = turnedP l t m ++ [l.getD (backAt l.length t m) zeroP] := by
  unfold turnedP
  rw [List.range_succ, List.map_append]
  rfl
theorem turnedP_len (l : List PairS) (t : Int) (m : Nat) : (turnedP l t m).length = m := by simp [turnedP]
theorem backAt_inj {n : Nat} {t : Int} {i j : Nat} (hi : i < n) (hj : j < n) (e : backAt n t i = backAt n t j) : i = j := by
  unfold backAt at e
  have hn : (0 : Int) < n := by omega
  have a1 := Int.emod_nonneg ((i : Int) + t) (show (n : Int) ≠ 0 by omega)
  have a2 := Int.emod_lt_of_pos ((i : Int) + t) hn
  have b1 := Int.emod_nonneg ((j : Int) + t) (show (n : Int) ≠ 0 by omega)
  have b2 := Int.emod_lt_of_pos ((j : Int) + t) hn
  have e2 : ((i : Int) + t) % n = ((j : Int) + t) % n := by omega
  have e4 : (((i : Int) + t) - ((j : Int) + t)) % n = 0 := Int.emod_eq_emod_iff_emod_sub_eq_zero.1 e2
  have e5 : (n : Int) ∣ ((i : Int) - j) := by
    have := Int.dvd_of_emod_eq_zero e4
    rwa [show ((i : Int) + t) - ((j : Int) + t) = (i : Int) - j by omega] at this
  obtain ⟨c, hc⟩ := e5
  rcases Int.lt_trichotomy c 0 with h | h | h
  · have : (n : Int) * c ≤ (n : Int) * (-1) := Int.mul_le_mul_of_nonneg_left (by omega) (by omega)
    omega
  · subst h; omega
  · have : (n : Int) * 1 ≤ (n : Int) * c := Int.mul_le_mul_of_nonneg_left (by omega) (by omega)
    omega
theorem backAt_onto {n : Nat} (t : Int) {j : Nat} (hj : j < n) : ∃ i, i < n ∧ backAt n t i = j := by
  have hn : (0 : Int) < n := by omega
  refine ⟨(((n : Int) - 1 - j - t) % n).toNat, ?_, ?_⟩
  · have a1 := Int.emod_nonneg ((n : Int) - 1 - j - t) (show (n : Int) ≠ 0 by omega)
    have a2 := Int.emod_lt_of_pos ((n : Int) - 1 - j - t) hn
    omega
  · have a1 := Int.emod_nonneg ((n : Int) - 1 - j - t) (show (n : Int) ≠ 0 by omega)
    unfold backAt
    rw [Int.toNat_of_nonneg a1]
    have e : (((n : Int) - 1 - j - t) % n + t) % n = (n : Int) - 1 - j := by
      rw [Int.add_emod, Int.emod_emod, ← Int.add_emod, show (n : Int) - 1 - j - t + t = (n : Int) - 1 - j by omega]
      exact Int.emod_eq_of_lt (by omega) (by omega)
    rw [e]
    omega
theorem turnedP_unlike {l : List PairS} (h : Unlike l) (t : Int) : Unlike (turnedP l t l.length) := by
  unfold turnedP Unlike
  rw [List.pairwise_map]
  refine List.pairwise_iff_getElem.2 fun i j hi hj hij => ?_
  have hi' : i < l.length := by simpa using hi
  have hj' : j < l.length := by simpa using hj
  simp only [List.getElem_range]
  have b1 := backAt_lt (n := l.length) (by omega) t i
  have b2 := backAt_lt (n := l.length) (by omega) t j
  have ne : backAt l.length t i ≠ backAt l.length t j := fun e => by have := backAt_inj hi' hj' e; omega
  have g : ∀ {q : Nat} (hq : q < l.length), l.getD q zeroP = l[q] := fun {q} hq => by simp [List.getD, hq]
  rw [g b1, g b2]
  rcases Nat.lt_or_gt_of_ne ne with h1 | h1
  · exact List.pairwise_iff_getElem.1 h _ _ b1 b2 h1
  · exact fun e => List.pairwise_iff_getElem.1 h _ _ b2 b1 h1 e.symm
theorem turnedP_mem (l : List PairS) (t : Int) (x : PairS) : x ∈ turnedP l t l.length ↔ x ∈ l := by
  have g : ∀ {q : Nat} (hq : q < l.length), l.getD q zeroP = l[q] := fun {q} hq => by simp [List.getD, hq]
  unfold turnedP
  rw [List.mem_map]
  constructor
  · rintro ⟨i, hi, rfl⟩
    have hi' := List.mem_range.1 hi
    have b1 := backAt_lt (n := l.length) (by omega) t i
    rw [g b1]
    exact List.getElem_mem b1
  · intro hx
    obtain ⟨j, hj, rfl⟩ := List.mem_iff_getElem.1 hx
    obtain ⟨i, hi, e⟩ := backAt_onto t hj
    exact ⟨i, List.mem_range.2 hi, by rw [e, g hj]⟩
theorem turned_order {l : List PairS} (h : Unlike l) (t : Int) : putsP (turnedP l t l.length) = putsP l :=
  putsP_order (turnedP_unlike h t) h (turnedP_mem l t)
end Go.Proofs.Ytebiipmaimdocaa

namespace Go.Proofs.Ytebiipmaimdocaa
open Go.RowKit Go.Maps Go.WideMaps
set_option linter.unusedVariables false

/-- The reference's table at p: its pairs' row v; all it has lies in F. -/
structure RTabIn (w : World) (p : Nat) (v : Value) (l : List PairS) (F : Nat → Prop) : Prop where
  head : w.heap[p]? = some (.cells #[v] 46 (0, 0))
  row : w.ownsRow 0 29 3 v l.length (rowP l)
  fp : F p
  frow : ∀ k, v.ownBlock = some k → F k
def RTabAt (w : World) (p : Nat) (l : List PairS) (F : Nat → Prop) : Prop := ∃ v, RTabIn w p v l F

section
variable {F G : Nat → Prop} {w w' : World} {p : Nat} {v : Value} {l : List PairS}
theorem RTabIn.kept (h : RTabIn w p v l F) (t : Turn G w w') (hd : ∀ k, F k → ¬ G k) : RTabIn w' p v l F :=
  ⟨t.keeps h.head (hd _ h.fp), t.row h.row (fun k hk => hd _ (h.frow k hk)), h.fp, h.frow⟩
theorem RTabAt.kept (h : RTabAt w p l F) (t : Turn G w w') (hd : ∀ k, F k → ¬ G k) : RTabAt w' p l F := by
  obtain ⟨v, h⟩ := h
  exact ⟨v, h.kept t hd⟩
theorem RTabIn.mono (h : RTabIn w p v l F) (hd : ∀ k, F k → G k) : RTabIn w p v l G := ⟨h.head, h.row, hd _ h.fp, fun k hk => hd _ (h.frow k hk)⟩
theorem RTabAt.mono (h : RTabAt w p l F) (hd : ∀ k, F k → G k) : RTabAt w p l G := by
  obtain ⟨v, h⟩ := h
  exact ⟨v, h.mono hd⟩
theorem RTabIn.below (h : RTabIn w p v l F) (t : Below w.heap.size w w') : RTabIn w' p v l F := h.kept (Turn.of_below (fun _ => False) t) (fun _ _ h => h)
theorem RTabAt.below (h : RTabAt w p l F) (t : Below w.heap.size w w') : RTabAt w' p l F := h.kept (Turn.of_below (fun _ => False) t) (fun _ _ h => h)
theorem RTabIn.lt (h : RTabIn w p v l F) : p < w.heap.size := block_lt h.head
theorem RTabIn.c0 (h : RTabIn w p v l F) : w.cell? ⟨p, 0, none⟩ = some v := by rw [block_cell h.head]; rfl
theorem RTabIn.free (h : RTabIn w p v l F) (i : Nat) : w.frozen? ⟨p, i, none⟩ = false := block_free h.head i
theorem RTabIn.rowNe (h : RTabIn w p v l F) {k : Nat} (hk : v.ownBlock = some k) : k ≠ p := by
  rintro rfl
  rcases h.row.2 with ⟨h1, _⟩ | ⟨g, cap, cur, h1, _, h2, _⟩
  · rw [h1] at hk; simp [Value.ownBlock] at hk
  · rw [h1] at hk
    simp [Value.ownBlock] at hk
    rw [hk, h.head] at h2
    simp at h2
theorem RTabIn.max (h : RTabIn w p v l F) : l.length ≤ maxLen := by
  rcases h.row.2 with ⟨_, h0⟩ | ⟨g, cap, cur, h1, _, _, h2, h3, _⟩
  · omega
  · omega
end

theorem row_slice {w : World} {base : Nat} {t : TypeId} {sz : Nat} {v : Value} {n : Nat} {xs : List Value} (h : w.ownsRow base t sz v n xs) : ∃ a c, v = .slice a n c := by
  rcases h.2 with ⟨rfl, rfl⟩ | ⟨g, cap, cur, rfl, _⟩
  · exact ⟨none, 0, rfl⟩
  · exact ⟨_, _, rfl⟩

/-- The cells of a pair of a row that is owned. -/
theorem row_pair {w : World} {base : Nat} {v : Value} {l : List PairS} (h : w.ownsRow base 29 3 v l.length (rowP l)) {i : Nat} (hi : i < l.length) : ∃ g cap, v = .slice (some ⟨g, 0, none⟩) l.length cap ∧ l.length ≤ cap ∧ cap ≤ maxLen ∧
    w.cell? ⟨g, i * 3, none⟩ = some (.string l[i].key) ∧ w.cell? ⟨g, i * 3 + 1, none⟩ = some (.string l[i].val) ∧ w.cell? ⟨g, i * 3 + 2, none⟩ = some (.bool l[i].gone) := by
  rcases h.2 with ⟨_, h0⟩ | ⟨g, cap, cur, hv, _, hg, hle, hcm, _⟩
  · omega
  · obtain ⟨r0, r1, r2⟩ := rowP_at l i hi
    subst hv
    exact ⟨g, cap, rfl, hle, hcm, (h.cellAt _ (by omega)).trans r0, (h.cellAt _ (by omega)).trans r1, (h.cellAt _ (by omega)).trans r2⟩

theorem toList_nil {k : ByteArray} : k.toList = [] ↔ k.size = 0 := by
  rw [ByteArray.toList_eq]
  show _ ↔ k.data.size = 0
  rw [← Array.length_toList]
  exact List.length_eq_zero_iff.symm

theorem wrongP_key {k v : ByteArray} {g : Bool} (h : k.toList = []) : wrongP ⟨k, v, g⟩ = 1 := by
  have := toList_nil.1 h
  simp [wrongP, this]
theorem wrongP_gone {k v : ByteArray} (h : ¬ v.toList = []) : wrongP ⟨k, v, true⟩ = 1 := by
  have : ¬ v.size = 0 := fun e => h (toList_nil.2 e)
  simp [wrongP, this]
theorem wrongP_long {k v : ByteArray} {g : Bool} (h : ¬ k.toList = []) (hg : g = false ∨ v.toList = []) (h2 : 64 < (k.size : Int) ∨ 8192 < (v.size : Int)) : wrongP ⟨k, v, g⟩ = 2 := by
  have h3 : ¬ k.size = 0 := fun e => h (toList_nil.2 e)
  have h4 : ¬ (g = true ∧ v.size ≠ 0) := by
    rintro ⟨rfl, h5⟩
    rcases hg with hg | hg
    · cases hg
    · exact h5 (toList_nil.1 hg)
  unfold wrongP
  rw [if_neg (by simp only [not_or]; exact ⟨h3, h4⟩), if_pos (by simp only; omega)]
theorem wrongP_fine {k v : ByteArray} {g : Bool} (h : ¬ k.toList = []) (hg : g = false ∨ v.toList = []) (h2 : ¬ (64 < (k.size : Int) ∨ 8192 < (v.size : Int))) : wrongP ⟨k, v, g⟩ = 0 := by
  have h3 : ¬ k.size = 0 := fun e => h (toList_nil.2 e)
  have h4 : ¬ (g = true ∧ v.size ≠ 0) := by
    rintro ⟨rfl, h5⟩
    rcases hg with hg | hg
    · cases hg
    · exact h5 (toList_nil.1 hg)
  unfold wrongP
  rw [if_neg (by simp only [not_or]; exact ⟨h3, h4⟩), if_neg (by simp only; omega)]

set_option maxHeartbeats 1000000 in
set_option maxRecDepth 100000 in
theorem rwrong_any (x : PairS) (w : World) :
    Calls Try.prog 26 #[x.val'] w fun e w' => e = .returned (.int .i64 (wrongP x : Nat)) ∧ Below w.heap.size w w' := by
  obtain ⟨k, v, g⟩ := x
  show Calls Try.prog 26 #[.agg #[.string k, .string v, .bool g]] w _
  generalize hN : wrongP ⟨k, v, g⟩ = N
  have HN := Lib.hid hN
  clear hN
  by_cases hk : k.toList = []
  · have hb : k.toList.isEmpty = true := by rw [hk]; rfl
    have HX := HN.out.symm.trans (wrongP_key hk)
    subst HX
    go_enter Try.func26, Try.ntmps26
    go_wp2
    go_ret
    exact ⟨rfl, (Below.refl _ w).alloc (Nat.le_refl _) _⟩
  · have hb : k.toList.isEmpty = false := by simpa using hk
    cases g
    · by_cases h2 : 64 < (k.size : Int) ∨ 8192 < (v.size : Int)
      · have HX := HN.out.symm.trans (wrongP_long hk (.inl rfl) h2)
        subst HX
        go_enter Try.func26, Try.ntmps26
        go_wp2
        all_goals first
          | (exfalso; omega)
          | (go_ret; exact ⟨rfl, (Below.refl _ w).alloc (Nat.le_refl _) _⟩)
      · have HX := HN.out.symm.trans (wrongP_fine hk (.inl rfl) h2)
        subst HX
        go_enter Try.func26, Try.ntmps26
        go_wp2
        all_goals first
          | (exfalso; omega)
          | (go_ret; exact ⟨rfl, (Below.refl _ w).alloc (Nat.le_refl _) _⟩)
    · by_cases hv : v.toList = []
      · have hc : v.toList.isEmpty = true := by rw [hv]; rfl
        by_cases h2 : 64 < (k.size : Int) ∨ 8192 < (v.size : Int)
        · have HX := HN.out.symm.trans (wrongP_long hk (.inr hv) h2)
          subst HX
          go_enter Try.func26, Try.ntmps26
          go_wp2
          all_goals first
            | (exfalso; omega)
            | (go_ret; exact ⟨rfl, (Below.refl _ w).alloc (Nat.le_refl _) _⟩)
        · have HX := HN.out.symm.trans (wrongP_fine hk (.inr hv) h2)
          subst HX
          go_enter Try.func26, Try.ntmps26
          go_wp2
          all_goals first
            | (exfalso; omega)
            | (go_ret; exact ⟨rfl, (Below.refl _ w).alloc (Nat.le_refl _) _⟩)
      · have hc : v.toList.isEmpty = false := by simpa using hv
        have HX := HN.out.symm.trans (wrongP_gone hv)
        subst HX
        go_enter Try.func26, Try.ntmps26
        go_wp2
        go_ret
        exact ⟨rfl, (Below.refl _ w).alloc (Nat.le_refl _) _⟩

set_option maxHeartbeats 1000000 in
set_option maxRecDepth 100000 in
theorem rat5_any {w : World} {p : Nat} {v : Value} {l : List PairS} {F : Nat → Prop} (h : RTabIn w p v l F) (k : ByteArray) :
    Calls Try.prog 27 #[.pointer (some ⟨p, 0, none⟩), .string k] w fun e w' => e = .returned (.tuple #[.int .i64 (placeP k l : Nat), .bool (thereP k l)]) ∧ ∃ n, w' = w.drewN n := by
  have c0 := h.c0
  have hmax : l.length ≤ 9223372036854775807 := by have := h.max; unfold maxLen at this; omega
  obtain ⟨va, vc, rfl⟩ := row_slice h.row
  have H := Lib.hid h
  clear h
  go_enter Try.func27, Try.ntmps27
  go_wp2
  go_loop [6] (fun iv => ∃ i : Nat, i ≤ l.length ∧ iv = .int .i64 (i : Int) ∧ Hid (∀ j (h : j < l.length), j < i → befB l[j].key k = true)) (fun iv => l.length - (intOf iv).toNat)
  case atStart => exact ⟨0, by omega, rfl, fun j _ hj => by omega⟩
  case round =>
    obtain ⟨i, hi, rfl, hbf⟩ := hrel
    by_cases hlt : i < l.length
    · obtain ⟨g, cap, hv, hcap, hcm, q0, q1, q2⟩ := row_pair H.out.row hlt
      injection hv with hv1 hv2 hv3
      subst hv1
      by_cases hb : Op.bytesLess l[i].key.toList k.toList = true
      · have HB2 : Hid (∀ j (h : j < l.length), j < i + 1 → befB l[j].key k = true) := fun j hj hjk => by
          by_cases e : j = i
          · subst e; exact hb
          · exact hbf.out j hj (by omega)
        go_wp2
        exact ⟨⟨i + 1, by omega, by go_num, HB2⟩, by simp [intOf]; omega⟩
      · have hb2 : Op.bytesLess l[i].key.toList k.toList = false := by simpa using hb
        have HPL := Lib.hid (placeP_of hi hbf.out (fun _ => hb2))
        have HFD := Lib.hid (thereP_of hlt HPL.out)
        clear hb
        go_wp2
        go_quiet (fail)
        go_wp2
        go_ret2
        exact ⟨by rw [HPL.out, HFD.out, ← keyEq]; rfl, _, rfl⟩
    · obtain rfl : i = l.length := by omega
      have HPL := Lib.hid (placeP_of hi hbf.out (fun h => by omega))
      have HFD := Lib.hid (thereP_none HPL.out)
      go_wp2
      go_quiet (fail)
      go_wp2
      go_ret2
      exact ⟨by rw [HPL.out, HFD.out]; rfl, _, rfl⟩
end Go.Proofs.Ytebiipmaimdocaa

namespace Go.Proofs.Ytebiipmaimdocaa
open Go.RowKit Go.Maps Go.WideMaps
set_option linter.unusedVariables false

/-- Pairs in a row that can be read. -/
def ReadP (w : World) (x : Value) (l : List PairS) : Prop :=
  l.length ≤ maxLen ∧ ∃ a c, x = .slice a l.length c ∧ (l = [] ∨ ∃ b o, a = some ⟨b, o, none⟩ ∧ ∀ i (h : i < l.length), w.cell? ⟨b, o + i * 3, none⟩ = some (.string l[i].key) ∧ w.cell? ⟨b, o + i * 3 + 1, none⟩ = some (.string l[i].val) ∧ w.cell? ⟨b, o + i * 3 + 2, none⟩ = some (.bool l[i].gone))
theorem ReadP.below {w w' : World} {x : Value} {l : List PairS} (h : ReadP w x l) (t : Below w.heap.size w w') : ReadP w' x l := by
  obtain ⟨hm, a, c, rfl, h1⟩ := h
  refine ⟨hm, a, c, rfl, ?_⟩
  rcases h1 with h1 | ⟨b, o, rfl, h1⟩
  · exact .inl h1
  · refine .inr ⟨b, o, rfl, fun i hi => ?_⟩
    obtain ⟨q0, q1, q2⟩ := h1 i hi
    exact ⟨(t.cell (World.block_lt_of_cell? _ _ q0)).trans q0, (t.cell (World.block_lt_of_cell? _ _ q1)).trans q1, (t.cell (World.block_lt_of_cell? _ _ q2)).trans q2⟩
theorem ReadP.own {w : World} {base : Nat} {v : Value} {l : List PairS} (h : w.ownsRow base 29 3 v l.length (rowP l)) : ReadP w v l := by
  have hr := h
  rcases h.2 with ⟨rfl, h0⟩ | ⟨g, cap, cur, rfl, _, hg, hle, hcm, _⟩
  · have : l = [] := List.eq_nil_of_length_eq_zero h0
    subst this
    exact ⟨by simp, none, 0, rfl, .inl rfl⟩
  · refine ⟨by omega, some ⟨g, 0, none⟩, cap, rfl, .inr ⟨g, 0, rfl, fun i hi => ?_⟩⟩
    obtain ⟨g', cap', hv, _, _, q0, q1, q2⟩ := row_pair hr hi
    injection hv with hv
    injection hv with hv
    injection hv with hv
    subst hv
    rw [Nat.zero_add]
    exact ⟨q0, q1, q2⟩
theorem ReadP.slice {w : World} {x : Value} {l : List PairS} (h : ReadP w x l) : ∃ a c, x = .slice a l.length c := by
  obtain ⟨hm, a, c, rfl, h1⟩ := h
  exact ⟨a, c, rfl⟩
theorem ReadP.at {w : World} {a : Option Addr} {n c : Nat} {l : List PairS} (h : ReadP w (.slice a n c) l) {i : Nat} (hi : i < l.length) : ∃ b o, a = some ⟨b, o, none⟩ ∧ w.cell? ⟨b, o + i * 3, none⟩ = some (.string l[i].key) ∧ w.cell? ⟨b, o + i * 3 + 1, none⟩ = some (.string l[i].val) ∧ w.cell? ⟨b, o + i * 3 + 2, none⟩ = some (.bool l[i].gone) := by
  obtain ⟨hm, a', c', hv, h1⟩ := h
  injection hv with h2 h3 h4
  subst h2
  rcases h1 with rfl | ⟨b, o, rfl, h1⟩
  · simp at hi
  · exact ⟨b, o, rfl, h1 i hi⟩

theorem toList_inj {a b : ByteArray} (h : a.toList = b.toList) : a = b := by
  rw [ByteArray.toList_eq, ByteArray.toList_eq] at h
  exact ByteArray.ext (Array.toList_inj.1 h)

/-- The same pairs? -/
def sameP (a b : List PairS) : Bool := decide (a = b)

set_option maxHeartbeats 1000000 in
set_option maxRecDepth 100000 in
theorem rsame_any {w : World} {x y : Value} {a b : List PairS} (ha : ReadP w x a) (hb : ReadP w y b) :
    Calls Try.prog 10 #[x, y] w fun e w' => e = .returned (.bool (sameP a b)) ∧ ∃ n, w' = w.drewN n := by
  have ma : a.length ≤ 9223372036854775807 := by have := ha.1; unfold maxLen at this; omega
  have mb : b.length ≤ 9223372036854775807 := by have := hb.1; unfold maxLen at this; omega
  obtain ⟨aa, ca, rfl⟩ := ha.slice
  obtain ⟨ab, cb, rfl⟩ := hb.slice
  have HA := Lib.hid ha
  have HB := Lib.hid hb
  clear ha hb
  by_cases hl : a.length = b.length
  · have hE : Hid (a.length = b.length) := hl
    have hne : ((a.length : Int) != (b.length : Int)) = false := by simp [hl]
    go_enter Try.func10, Try.ntmps10
    clear hl
    go_wp2
    go_loopw [5] (fun iv wr => ∃ k : Nat, k ≤ a.length ∧ iv = .int .i64 (k : Int) ∧ Hid (a.take k = b.take k) ∧ ∃ n, wr = w.drewN n) (fun iv _ => a.length - (intOf iv).toNat)
    case atStart => exact ⟨0, by omega, rfl, rfl, 0, rfl⟩
    case round =>
      obtain ⟨k, hk, rfl, ht, n, rfl⟩ := hrel
      by_cases hlt : k < a.length
      · have hlt2 : k < b.length := by have := hE.out; omega
        obtain ⟨ba, oa, rfl, p0, p1, p2⟩ := HA.out.at hlt
        obtain ⟨bb, ob, rfl, q0, q1, q2⟩ := HB.out.at hlt2
        have HT : Hid (a[k] = b[k] → a.take (k + 1) = b.take (k + 1)) := fun e => by
          rw [List.take_succ_eq_append_getElem hlt, List.take_succ_eq_append_getElem hlt2, ht.out, e]
        have HN : Hid (a[k] ≠ b[k] → sameP a b = false) := fun e => by
          simp only [sameP, decide_eq_false_iff_not]
          intro e2
          subst e2
          exact e rfl
        generalize a[k] = x at *
        generalize b[k] = y at *
        obtain ⟨k1, v1, g1⟩ := x
        obtain ⟨k2, v2, g2⟩ := y
        by_cases h1 : k1.toList = k2.toList
        · by_cases h2 : v1.toList = v2.toList
          · by_cases hd : g1 = g2
            · obtain rfl := toList_inj h1
              obtain rfl := toList_inj h2
              subst hd
              have HT2 := Lib.hid (HT.out rfl)
              clear HT HN ht h1 h2
              go_wp2
              go_quiet (fail)
              go_wp2
              go_roundw
              case rel => exact ⟨k + 1, by omega, by go_num, HT2, _, rfl⟩
              case measure => simp [intOf]; omega
            · have hd' := hd
              have HS := Lib.hid (HN.out (fun e => by cases e; simp at hd))
              clear HT HN ht
              go_wp2
              go_quiet (fail)
              go_wp2
              go_ret
              exact ⟨by rw [HS.out]; rfl, _, World.drewN_drewN _ _ _⟩
          · have hd := h2
            have HS := Lib.hid (HN.out (fun e => by cases e; simp at hd))
            clear HT HN ht
            go_wp2
            go_quiet (fail)
            go_wp2
            go_ret
            exact ⟨by rw [HS.out]; rfl, _, World.drewN_drewN _ _ _⟩
        · have hd := h1
          have HS := Lib.hid (HN.out (fun e => by cases e; simp at hd))
          clear HT HN ht
          go_wp2
          go_quiet (fail)
          go_wp2
          go_ret
          exact ⟨by rw [HS.out]; rfl, _, World.drewN_drewN _ _ _⟩
      · obtain rfl : k = a.length := by omega
        have HS : Hid (sameP a b = true) := by
          show _ = _
          have h1 := ht.out
          rw [List.take_length, hE.out, List.take_length] at h1
          simp [sameP, h1]
        go_wp2
        go_ret
        exact ⟨by rw [HS.out]; rfl, _, rfl⟩
  · have hne : ((a.length : Int) != (b.length : Int)) = true := by simp; omega
    have HS : Hid (sameP a b = false) := by
      show _ = _
      simp only [sameP, decide_eq_false_iff_not]
      exact fun e => hl (by rw [e])
    go_enter Try.func10, Try.ntmps10
    clear hl
    go_wp2
    go_ret
    exact ⟨by rw [HS.out]; rfl, 0, rfl⟩

end Go.Proofs.Ytebiipmaimdocaa

namespace Go.Proofs.Ytebiipmaimdocaa
open Go.RowKit Go.Maps Go.WideMaps
set_option linter.unusedVariables false

/-- .. and the blocks that are new. -/
def Grown (F : Nat → Prop) (w w' : World) (k : Nat) : Prop := F k ∨ (w.heap.size ≤ k ∧ k < w'.heap.size)
theorem slPair : Try.prog.underlying 26 = some (.slice (Try.prog.elem 26)) := by kernel_rfl
theorem szPair (w : World) : (sizeOf (Try.prog.elem 26)).run Try.prog w = .ok 3 w := by kernel_rfl
theorem drawnB (w : World) (n : Nat) : Below w.heap.size w (w.drewN n) := below_drewN (Below.refl _ w) n

theorem turnN {w w' : World} (h : Below w.heap.size w w') : Turn NoF w w' := Turn.of_below _ h
/-- The reference's pairs anew, in a row of their own. -/
theorem RTabIn.reRow {w w1 : World} {p : Nat} {v : Value} {l : List PairS} {F : Nat → Prop} (h : RTabIn w p v l F) {v' : Value} {l' : List PairS} (t : Turn NoF w w1) (ho : w1.ownsRow 0 29 3 v' l'.length (rowP l')) (hn : ∀ k, v'.ownBlock = some k → w.heap.size ≤ k) :
    RTabIn (w1.setCell ⟨p, 0, none⟩ v') p v' l' (Grown F w (w1.setCell ⟨p, 0, none⟩ v')) ∧ Turn F w (w1.setCell ⟨p, 0, none⟩ v') := by
  have hh1 : w1.heap[p]? = some (.cells #[v] 46 (0, 0)) := t.keeps h.head (fun h => h)
  have t2 : Turn (fun k => k = p) w1 (w1.setCell ⟨p, 0, none⟩ v') := (Turn.refl (fun k => k = p) w1).setCell (p := ⟨p, 0, none⟩) (.inl rfl) v'
  have hp := h.lt
  refine ⟨⟨block_set hh1 0 v', t2.row ho (fun k hk e => by have := hn k hk; omega), .inl h.fp, fun k hk => .inr ⟨hn k hk, by have := (ho.lt k hk).2; simpa [World.setCell] using this⟩⟩, ?_⟩
  exact (t.mono (fun i hi => hi.elim)).trans (t2.mono (fun i hi => by subst hi; exact .inl h.fp)) (fun i hi => .inl hi)

set_option maxHeartbeats 8000000 in
set_option maxRecDepth 100000 in
theorem rput_ok {w : World} {p : Nat} {v : Value} {l : List PairS} {F : Nat → Prop} (h : RTabIn w p v l F) (x : PairS) (hx : wrongP x = 0) (hz : l.length < 3518437208880) :
    Calls Try.prog 20 #[.pointer (some ⟨p, 0, none⟩), x.val'] w fun e w' => e = .returned (.int .i64 0) ∧ RTabAt w' p (putP x l) (Grown F w w') ∧ Turn F w w' := by
  obtain ⟨i0, hi, hz0, hz1, hz2⟩ := info_parts infoPair
  obtain ⟨k, vl, gn⟩ := x
  have hwr := rwrong_any ⟨k, vl, gn⟩ (w.alloc (.cells #[.string k, .string vl, .bool gn] 29))
  rw [hx] at hwr
  have H := Lib.hid h
  have HW := Lib.hid hwr
  clear h hwr hx
  show Calls Try.prog 20 #[.pointer (some ⟨p, 0, none⟩), .agg #[.string k, .string vl, .bool gn]] w _
  go_enter Try.func20, Try.ntmps20
  go_wp2_with fail
  refine HW.out.mono ?_
  rintro r w1 ⟨rfl, b1⟩
  have hs1 : (w.alloc (.cells #[.string k, .string vl, .bool gn] 29)).heap.size = w.heap.size + 1 := by simp
  have hbx : w1.heap[w.heap.size]? = some (.cells #[.string k, .string vl, .bool gn] 29 (0, 0)) := (b1.block _ (by omega)).trans (heap_alloc_new _ _)
  have T1 := Lib.hid (Turn.of_below NoF (((Below.refl _ w).alloc (Nat.le_refl _) _).trans (b1.mono (by omega))))
  have h1 : RTabIn w1 p v l F := H.out.kept T1.out (fun _ _ h => h)
  have x0 : w1.cell? ⟨w.heap.size, 0, none⟩ = some (.string k) := by rw [World.cell?, hbx]; rfl
  have x1 : w1.cell? ⟨w.heap.size, 1, none⟩ = some (.string vl) := by rw [World.cell?, hbx]; rfl
  have x2 : w1.cell? ⟨w.heap.size, 2, none⟩ = some (.bool gn) := by rw [World.cell?, hbx]; rfl
  have HB := Lib.hid hbx
  have H1 := Lib.hid h1
  clear b1 h1 hbx
  go_wp2_with fail
  refine (rat5_any H1.out k).mono ?_
  rintro r w2 ⟨rfl, nd, rfl⟩
  have hpl := placeP_le k l
  have h2 : RTabIn (w1.drewN nd) p v l F := H1.out.below (drawnB w1 nd)
  have T2 := Lib.hid ((T1.out).trans (turnN (drawnB w1 nd)) (fun i hi => hi.elim))
  have y0 : (w1.drewN nd).cell? ⟨w.heap.size, 0, none⟩ = some (.string k) := x0
  have y1 : (w1.drewN nd).cell? ⟨w.heap.size, 1, none⟩ = some (.string vl) := x1
  have y2 : (w1.drewN nd).cell? ⟨w.heap.size, 2, none⟩ = some (.bool gn) := x2
  have HB2 : Hid ((w1.drewN nd).heap[w.heap.size]? = some (.cells #[.string k, .string vl, .bool gn] 29 (0, 0))) := HB.out
  generalize hw2 : w1.drewN nd = w2 at *
  clear x0 x1 x2 hw2
  obtain ⟨s1v, e1, s1⟩ := src_take slPair szPair h2.row (rowP_one _) hpl
  rw [rowP_take] at s1
  have S1 := Lib.hid s1
  have H2 := Lib.hid h2
  have c0 := h2.c0
  have f0 := h2.free 0
  have hjl : placeP k l + (if thereP k l then 1 else 0) ≤ l.length := by
    by_cases ht : thereP k l = true
    · obtain ⟨hlt, _⟩ := thereP_lt ht
      rw [if_pos ht]; omega
    · rw [if_neg ht]; omega
  obtain ⟨s2v, e2, s2⟩ := src_drop slPair szPair h2.row (rowP_one _) hjl
  rw [rowP_drop] at s2
  have S2 := Lib.hid s2
  have HP : Hid (putP ⟨k, vl, gn⟩ l = l.take (placeP k l) ++ ⟨k, vl, gn⟩ :: l.drop (placeP k l + (if thereP k l then 1 else 0))) := rfl
  have hnil := World.ownsRow_nil w2 0 29 3
  clear h2 s1 s2
  generalize hT : thereP k l = tt at *
  generalize placeP k l = i at *
  clear hT
  cases tt
  · have e2' : ∀ wx, (Instr.slice 26 v (some (.int .i64 (i : Int))) none none).run Try.prog wx = .ok s2v wx := e2
    have E2 := Lib.hid e2'
    clear e2 e2'
    go_wp2_with (at_builtin; refine wpList_app _ rfl _ (.tmp 26) rfl Try.underlying26 hi hz0 hz1 hz2 rfl (by decide) rfl hnil rfl (S1.out w2 (Turn.refl _ _)) ?c1_0 ?c2_0 ?_)
    case c1_0 => omega
    case c2_0 => unfold maxLen; omega
    intro v3 w3 o3 g3 l3
    have t3 : Turn NoF w2 w3 := (Turn.refl NoF w2).grown g3 (fun k hk => by simp [Value.ownBlock] at hk)
    have n3 : ∀ j, v3.ownBlock = some j → w2.heap.size ≤ j := fun j hj => by
      rcases l3 j hj with h | h
      · simp [Value.ownBlock] at h
      · exact h
    have hw2 : w.heap.size < w2.heap.size := block_lt HB2.out
    have hb3 : w3.heap[w.heap.size]? = some (.cells #[.string k, .string vl, .bool gn] 29 (0, 0)) := t3.keeps HB2.out (fun h => h)
    have z0 : w3.cell? ⟨w.heap.size, 0, none⟩ = some (.string k) := by rw [World.cell?, hb3]; rfl
    have z1 : w3.cell? ⟨w.heap.size, 1, none⟩ = some (.string vl) := by rw [World.cell?, hb3]; rfl
    have z2 : w3.cell? ⟨w.heap.size, 2, none⟩ = some (.bool gn) := by rw [World.cell?, hb3]; rfl
    have N3 := Lib.hid n3
    have T3 := Lib.hid t3
    clear hnil g3 l3 n3 t3 c0 f0 y0 y1 y2 hb3
    have hsrc := src_new (sz := 3) w3 #[.string k, .string vl, .bool gn] 29 rfl (by simp [Value.oneCell'])
    have o3' := o3.alloc (.cells #[.string k, .string vl, .bool gn] 29)
    go_wp2_with (at_builtin; refine wpList_app _ rfl (.tmp 28) (.tmp 30) rfl Try.underlying26 hi hz0 hz1 hz2 rfl (by decide) rfl o3' rfl hsrc ?d1_0 ?d2_0 ?_)
    case d1_0 => omega
    case d2_0 => unfold maxLen; omega
    intro v4 w4 o4 g4 l4
    have t4 : Turn NoF w2 w4 := (T3.out.alloc _).grown g4 (fun j hj => .inr (N3.out j hj))
    have n4 : ∀ j, v4.ownBlock = some j → w2.heap.size ≤ j := fun j hj => by
      rcases l4 j hj with h | h
      · exact N3.out j h
      · have := T3.out.size
        have h' : w3.heap.size + 1 ≤ j := by simpa using h
        omega
    have c4 : w4.cell? ⟨p, 0, none⟩ = some v := by rw [World.cell?_of_block (w := w2) (t4.block p H2.out.lt (fun h => h))]; exact H2.out.c0
    have f4 : w4.frozen? ⟨p, 0, none⟩ = false := by rw [World.frozen?_of_block (w := w2) (t4.block p H2.out.lt (fun h => h))]; exact H2.out.free 0
    have N4 := Lib.hid n4
    have T4 := Lib.hid t4
    have hs4 := S2.out w4 t4
    have e2' := E2.out
    clear hsrc o3 o3' g4 l4 n4 t4 z0 z1 z2
    go_wp2_with (at_builtin; refine wpList_app _ rfl (.tmp 36) (.tmp 42) rfl Try.underlying26 hi hz0 hz1 hz2 rfl (by decide) rfl o4 rfl hs4 ?e1_0 ?e2_0 ?_)
    case e1_0 => omega
    case e2_0 => unfold maxLen; omega
    intro v5 w5 o5 g5 l5
    have t5 : Turn NoF w2 w5 := T4.out.grown g5 (fun j hj => .inr (N4.out j hj))
    have n5 : ∀ j, v5.ownBlock = some j → w2.heap.size ≤ j := fun j hj => by
      rcases l5 j hj with h | h
      · exact N4.out j h
      · have := T4.out.size; omega
    have c5 : w5.cell? ⟨p, 0, none⟩ = some v := by rw [World.cell?_of_block (w := w2) (t5.block p H2.out.lt (fun h => h))]; exact H2.out.c0
    have f5 : w5.frozen? ⟨p, 0, none⟩ = false := by rw [World.frozen?_of_block (w := w2) (t5.block p H2.out.lt (fun h => h))]; exact H2.out.free 0
    have hln : i + 1 + (l.length - (i + 0)) = (putP ⟨k, vl, gn⟩ l).length := by rw [HP.out]; simp; omega
    have hcl : rowP (l.take i) ++ [.string k, .string vl, .bool gn] ++ rowP (l.drop (i + 0)) = rowP (putP ⟨k, vl, gn⟩ l) := by
      rw [HP.out, rowP_append, rowP_cons, List.append_assoc]
      simp
    have o5' : w5.ownsRow 0 29 3 v5 (putP ⟨k, vl, gn⟩ l).length (rowP (putP ⟨k, vl, gn⟩ l)) := by
      rw [← hln, ← hcl]; simpa using o5
    have HRE := Lib.hid (H2.out.reRow t5 o5' n5)
    obtain ⟨a5, k5, rfl⟩ := row_slice o5
    clear hln hcl o5 o5' g5 l5 n5 t5 o4 hs4 c4 f4 hi
    go_wp2
    go_ret
    have g1 := HRE.out.2.size
    have g2 := T2.out.size
    refine ⟨rfl, RTabAt.mono ⟨_, HRE.out.1⟩ (fun j hj => ?_), (T2.out.mono (fun i hi => hi.elim)).trans HRE.out.2 (fun i hi => .inl hi)⟩
    rcases hj with hj | hj
    · exact .inl hj
    · exact .inr ⟨by omega, hj.2⟩
  · have e2' : ∀ wx, (Instr.slice 26 v (some (.int .i64 ((i : Int) + 1))) none none).run Try.prog wx = .ok s2v wx := e2
    have hwk : IntKind.i64.wrap ((i : Int) + 1) = (i : Int) + 1 := IntWalk.i64_in _ (by omega)
    have E2 := Lib.hid e2'
    clear e2 e2'
    go_wp2_with (at_builtin; refine wpList_app _ rfl _ (.tmp 26) rfl Try.underlying26 hi hz0 hz1 hz2 rfl (by decide) rfl hnil rfl (S1.out w2 (Turn.refl _ _)) ?c1_1 ?c2_1 ?_)
    case c1_1 => omega
    case c2_1 => unfold maxLen; omega
    intro v3 w3 o3 g3 l3
    have t3 : Turn NoF w2 w3 := (Turn.refl NoF w2).grown g3 (fun k hk => by simp [Value.ownBlock] at hk)
    have n3 : ∀ j, v3.ownBlock = some j → w2.heap.size ≤ j := fun j hj => by
      rcases l3 j hj with h | h
      · simp [Value.ownBlock] at h
      · exact h
    have hw2 : w.heap.size < w2.heap.size := block_lt HB2.out
    have hb3 : w3.heap[w.heap.size]? = some (.cells #[.string k, .string vl, .bool gn] 29 (0, 0)) := t3.keeps HB2.out (fun h => h)
    have z0 : w3.cell? ⟨w.heap.size, 0, none⟩ = some (.string k) := by rw [World.cell?, hb3]; rfl
    have z1 : w3.cell? ⟨w.heap.size, 1, none⟩ = some (.string vl) := by rw [World.cell?, hb3]; rfl
    have z2 : w3.cell? ⟨w.heap.size, 2, none⟩ = some (.bool gn) := by rw [World.cell?, hb3]; rfl
    have N3 := Lib.hid n3
    have T3 := Lib.hid t3
    clear hnil g3 l3 n3 t3 c0 f0 y0 y1 y2 hb3
    have hsrc := src_new (sz := 3) w3 #[.string k, .string vl, .bool gn] 29 rfl (by simp [Value.oneCell'])
    have o3' := o3.alloc (.cells #[.string k, .string vl, .bool gn] 29)
    go_wp2_with (at_builtin; refine wpList_app _ rfl (.tmp 28) (.tmp 30) rfl Try.underlying26 hi hz0 hz1 hz2 rfl (by decide) rfl o3' rfl hsrc ?d1_1 ?d2_1 ?_)
    case d1_1 => omega
    case d2_1 => unfold maxLen; omega
    intro v4 w4 o4 g4 l4
    have t4 : Turn NoF w2 w4 := (T3.out.alloc _).grown g4 (fun j hj => .inr (N3.out j hj))
    have n4 : ∀ j, v4.ownBlock = some j → w2.heap.size ≤ j := fun j hj => by
      rcases l4 j hj with h | h
      · exact N3.out j h
      · have := T3.out.size
        have h' : w3.heap.size + 1 ≤ j := by simpa using h
        omega
    have c4 : w4.cell? ⟨p, 0, none⟩ = some v := by rw [World.cell?_of_block (w := w2) (t4.block p H2.out.lt (fun h => h))]; exact H2.out.c0
    have f4 : w4.frozen? ⟨p, 0, none⟩ = false := by rw [World.frozen?_of_block (w := w2) (t4.block p H2.out.lt (fun h => h))]; exact H2.out.free 0
    have N4 := Lib.hid n4
    have T4 := Lib.hid t4
    have hs4 := S2.out w4 t4
    have e2' := E2.out
    clear hsrc o3 o3' g4 l4 n4 t4 z0 z1 z2
    go_wp2_with (at_builtin; refine wpList_app _ rfl (.tmp 36) (.tmp 42) rfl Try.underlying26 hi hz0 hz1 hz2 rfl (by decide) rfl o4 rfl hs4 ?e1_1 ?e2_1 ?_)
    case e1_1 => omega
    case e2_1 => unfold maxLen; omega
    intro v5 w5 o5 g5 l5
    have t5 : Turn NoF w2 w5 := T4.out.grown g5 (fun j hj => .inr (N4.out j hj))
    have n5 : ∀ j, v5.ownBlock = some j → w2.heap.size ≤ j := fun j hj => by
      rcases l5 j hj with h | h
      · exact N4.out j h
      · have := T4.out.size; omega
    have c5 : w5.cell? ⟨p, 0, none⟩ = some v := by rw [World.cell?_of_block (w := w2) (t5.block p H2.out.lt (fun h => h))]; exact H2.out.c0
    have f5 : w5.frozen? ⟨p, 0, none⟩ = false := by rw [World.frozen?_of_block (w := w2) (t5.block p H2.out.lt (fun h => h))]; exact H2.out.free 0
    have hln : i + 1 + (l.length - (i + 1)) = (putP ⟨k, vl, gn⟩ l).length := by rw [HP.out]; simp; omega
    have hcl : rowP (l.take i) ++ [.string k, .string vl, .bool gn] ++ rowP (l.drop (i + 1)) = rowP (putP ⟨k, vl, gn⟩ l) := by
      rw [HP.out, rowP_append, rowP_cons, List.append_assoc]
      simp
    have o5' : w5.ownsRow 0 29 3 v5 (putP ⟨k, vl, gn⟩ l).length (rowP (putP ⟨k, vl, gn⟩ l)) := by
      rw [← hln, ← hcl]; simpa using o5
    have HRE := Lib.hid (H2.out.reRow t5 o5' n5)
    obtain ⟨a5, k5, rfl⟩ := row_slice o5
    clear hln hcl o5 o5' g5 l5 n5 t5 o4 hs4 c4 f4 hi
    go_wp2
    go_ret
    have g1 := HRE.out.2.size
    have g2 := T2.out.size
    refine ⟨rfl, RTabAt.mono ⟨_, HRE.out.1⟩ (fun j hj => ?_), (T2.out.mono (fun i hi => hi.elim)).trans HRE.out.2 (fun i hi => .inl hi)⟩
    rcases hj with hj | hj
    · exact .inl hj
    · exact .inr ⟨by omega, hj.2⟩
end Go.Proofs.Ytebiipmaimdocaa

namespace Go.Proofs.Ytebiipmaimdocaa
open Go.RowKit Go.Maps Go.WideMaps
set_option linter.unusedVariables false

set_option maxHeartbeats 1000000 in
set_option maxRecDepth 100000 in
theorem rput5_any {w : World} {p : Nat} {l : List PairS} {F : Nat → Prop} (h : RTabAt w p l F) (x : PairS) (hz : l.length < 3518437208880) :
    Calls Try.prog 20 #[.pointer (some ⟨p, 0, none⟩), x.val'] w fun e w' => e = .returned (.int .i64 (wrongP x : Nat)) ∧ RTabAt w' p (putIf x l) (Grown F w w') ∧ Turn F w w' := by
  obtain ⟨v, h⟩ := h
  unfold putIf
  by_cases hx : wrongP x = 0
  · rw [if_pos hx, hx]
    exact rput_ok h x hx hz
  · rw [if_neg hx]
    obtain ⟨k, vl, gn⟩ := x
    have hwr := rwrong_any ⟨k, vl, gn⟩ (w.alloc (.cells #[.string k, .string vl, .bool gn] 29))
    generalize wrongP ⟨k, vl, gn⟩ = n at *
    have hne : ((n : Int) != 0) = true := by simpa using hx
    have hne2 : ((n : Int) == 0) = false := by simpa using hx
    have H := Lib.hid h
    have HW := Lib.hid hwr
    clear h hwr
    show Calls Try.prog 20 #[.pointer (some ⟨p, 0, none⟩), .agg #[.string k, .string vl, .bool gn]] w _
    go_enter Try.func20, Try.ntmps20
    go_wp2_with fail
    refine HW.out.mono ?_
    rintro r w1 ⟨rfl, b1⟩
    have B1 := Lib.hid (((Below.refl _ w).alloc (Nat.le_refl _) _).trans (b1.mono (by simp)))
    clear b1
    go_wp2
    go_ret
    exact ⟨rfl, RTabAt.mono ⟨v, H.out.below B1.out⟩ (fun k hk => .inl hk), (turnN B1.out).mono (fun i hi => hi.elim)⟩

theorem sameP_refl (l : List PairS) : sameP l l = true := by simp [sameP]
theorem drew1 (w : World) : Below w.heap.size w w.drew := (Below.refl _ w).drew
theorem ReadP.in {w wr : World} {a : Option Addr} {n c : Nat} {l : List PairS} (h : ReadP w (.slice a n c) l) (t : Below w.heap.size w wr) {i : Nat} (hi : i < l.length) : ∃ b o, a = some ⟨b, o, none⟩ ∧ wr.cell? ⟨b, o + i * 3, none⟩ = some (.string l[i].key) ∧ wr.cell? ⟨b, o + i * 3 + 1, none⟩ = some (.string l[i].val) ∧ wr.cell? ⟨b, o + i * 3 + 2, none⟩ = some (.bool l[i].gone) := (h.below t).at hi
theorem leq_any (a b : ByteArray) (w : World) : (binOp BinOp.leq 9 (.string a) (.string b)).run Try.prog w = .ok (.bool (!befB b a)) w := by
  have e : (Op.bytesLess a.toList b.toList || a.toList == b.toList) = !Op.bytesLess b.toList a.toList := by
    show (befB a b || a.toList == b.toList) = !befB b a
    rw [keyEq]
    by_cases h : a = b
    · subst h; rw [befB_irrefl]; simp
    · cases h1 : befB a b with
      | true => rw [befB_asymm h1]; simp
      | false =>
        have := befB_total h h1
        rw [this]; simp [h]
  simp [binOp, Op.stringOp, e, befB]
end Go.Proofs.Ytebiipmaimdocaa

namespace Go.Proofs.Ytebiipmaimdocaa
open Go.RowKit Go.Shelf
set_option linter.unusedVariables false

/-- What one party's step leaves alone: the other party's blocks (C), and the streams. -/
structure Stays (C : Nat → Prop) (W W' : World) : Prop where
  os : W'.os = W.os
  tape : W'.tape = W.tape
  output : W'.output = W.output
  size : W.heap.size ≤ W'.heap.size
  block : ∀ k, C k → W'.heap[k]? = W.heap[k]?
/-- C and what was laid between two worlds. -/
def CNew (C : Nat → Prop) (W W' : World) : Nat → Prop := fun k => C k ∨ (W.heap.size ≤ k ∧ k < W'.heap.size)
/-- What is said of C's blocks alone. -/
def AbidesC {β : Type} (J : β → (Nat → Prop) → World → Prop) : Prop :=
  ∀ s C C' W W', J s C W → Stays C W W' → (∀ k, C k → C' k) → J s C' W'

theorem Stays.refl (C : Nat → Prop) (W : World) : Stays C W W := ⟨rfl, rfl, rfl, Nat.le_refl _, fun _ _ => rfl⟩
theorem Stays.trans {C : Nat → Prop} {a b c : World} (h : Stays C a b) (k : Stays C b c) : Stays C a c :=
  ⟨k.os.trans h.os, k.tape.trans h.tape, k.output.trans h.output, Nat.le_trans h.size k.size, fun i hi => (k.block i hi).trans (h.block i hi)⟩
theorem Stays.mono {C C' : Nat → Prop} {a b : World} (h : Stays C a b) (hc : ∀ k, C' k → C k) : Stays C' a b := ⟨h.os, h.tape, h.output, h.size, fun i hi => h.block i (hc i hi)⟩
theorem Stays.of_below {C : Nat → Prop} {n : Nat} {a b : World} (h : Below n a b) (hc : ∀ k, C k → k < n) : Stays C a b := ⟨h.os, h.tape, h.output, h.size, fun i hi => h.block i (hc i hi)⟩
theorem Stays.of_turn {C F : Nat → Prop} {a b : World} (h : Turn F a b) (hc : ∀ k, C k → k < a.heap.size ∧ ¬ F k) : Stays C a b := ⟨h.os, h.tape, h.output, h.size, fun i hi => h.block i (hc i hi).1 (hc i hi).2⟩
theorem Stays.putObj {C : Nat → Prop} (W : World) {l : Nat} (o : Obj) (hc : ¬ C l) : Stays C W (W.putObj l o) :=
  have hg := grownBy_putObj' W l o
  ⟨hg.os, hg.tape, hg.output, hg.size, fun i hi => World.putObj_heap_other (fun e => hc (e ▸ hi))⟩
theorem turn_putObj {F : Nat → Prop} (W : World) {l : Nat} (o : Obj) (hc : F l) : Turn F W (W.putObj l o) :=
  (Turn.refl F W).grown (grownBy_putObj' W l o) (fun k e => .inl (by cases e; exact hc))
theorem AbidesC.later {β : Type} {J : β → (Nat → Prop) → World → Prop} (h : AbidesC J) {s : β} {C : Nat → Prop} {W W' : World} (hs : J s C W) (t : Stays C W W') : J s C W' := h s C C W W' hs t fun _ h => h
theorem AbidesC.and {β : Type} {J J' : β → (Nat → Prop) → World → Prop} (h : AbidesC J) (h' : AbidesC J') : AbidesC (fun s C W => J s C W ∧ J' s C W) := fun s C C' W W' hs t hc => ⟨h s C C' W W' hs.1 t hc, h' s C C' W W' hs.2 t hc⟩
theorem abidesC_pure {β : Type} (p : β → Prop) : AbidesC (fun s (_ : Nat → Prop) (_ : World) => p s) := fun _ _ _ _ _ hs _ _ => hs
/-- Below some world: whose blocks are among C. -/
theorem abidesC_below {β : Type} (n : Nat) (w : World) : AbidesC (fun (_ : β) C W => Below n w W ∧ ∀ k, k < n → C k) := fun _ C C' W W' hs t hc =>
  ⟨hs.1.trans ⟨t.os, t.tape, t.output, t.size, fun k hk => t.block k (hs.2 k hk)⟩, fun k hk => hc k (hs.2 k hk)⟩

/-- A function value, called in W at a yield: it gives ps, whatever is done between with C's blocks, with new ones, and with no others, so it keeps G's. -/
def RunsC (g : Nat) (lb : Array Value) (G : Nat → Prop) (ps : List PairS) (W : World) : Prop :=
  ∀ (y : Nat) (J Jx : List PairS → (Nat → Prop) → World → Prop) (C : Nat → Prop), AbidesC J → AbidesC Jx → (∀ k, C k → k < W.heap.size) →
    (∀ pre x C1 W1, J pre C1 W1 → (∀ k, C1 k → k < W1.heap.size) → W.heap.size ≤ W1.heap.size → pre ++ [x] <+: ps → ∀ m, YieldAt Fence.wide m Try.prog y #[x.val'] W1 fun e W' => Turn C1 W1 W' ∧
      ((e = .returned (.bool true) ∧ J (pre ++ [x]) (CNew C1 W1 W') W' ∧ Keeps G W1 W') ∨ (e = .returned (.bool false) ∧ Jx (pre ++ [x]) (CNew C1 W1 W') W'))) →
    J [] C W →
    Calls Try.prog g (#[.func (.yield y) #[] #[]] ++ lb) W fun e W' => (∃ v, e = .returned v) ∧ ∃ C', (∀ k, C' k → k < W'.heap.size) ∧ (J ps C' W' ∨ ∃ pre, pre <+: ps ∧ Jx pre C' W')

/-- How the body of a round may be left. -/
def postC (C : Nat → Prop) (G : Nat → Prop) (I : List PairS → (Nat → Prop) → World → Prop) (Ix : Code → List PairS → (Nat → Prop) → World → Prop) (xs : List PairS) (W : World) : Exit → Act → World → Prop
  | .normal, _, W' => Turn C W W' ∧ Keeps G W W' ∧ I xs (CNew C W W') W'
  | .ret, _, W' => Turn C W W' ∧ Ix .ret xs (CNew C W W') W'
  | .exit id, _, W' => Turn C W W' ∧ Ix (.exit id) xs (CNew C W W') W'
  | .goto t, _, W' => Turn C W W' ∧ Ix (.goto t) xs (CNew C W W') W'
  | .panic _, _, _ => False
  | .outgrown, _, _ => False
/-- What is known behind the loop, whichever way it was left. -/
def EndsC (ps : List PairS) (I : List PairS → (Nat → Prop) → World → Prop) (Ix : Code → List PairS → (Nat → Prop) → World → Prop) (w : World) (Q : Exit → Act → World → Prop) (a : Act) : Prop :=
  (∀ (D : Nat) (C : Nat → Prop) (W : World), w.heap.size ≤ D → ¬ C D → (∀ k, C k → k < W.heap.size) → I ps C W → W.heap[D]? = some (.deferred (some [])) → Q .normal { a with defers := { target := .collected D, args := #[] } :: a.defers } W) ∧
  ∀ (D : Nat) (c : Code) (pre : List PairS) (C : Nat → Prop) (W : World), w.heap.size ≤ D → ¬ C D → (∀ k, C k → k < W.heap.size) → pre <+: ps → Ix c pre C W → W.heap[D]? = some (.deferred (some [])) → c.wp Try.prog Q { a with defers := { target := .collected D, args := #[] } :: a.defers } W
/-- .. in a block that a break leaves. -/
theorem EndsC.block {ps : List PairS} {I : List PairS → (Nat → Prop) → World → Prop} {Ix : Code → List PairS → (Nat → Prop) → World → Prop} {w : World} {b : Nat} {R : Exit → Act → World → Prop} {a : Act} (J : (Nat → Prop) → World → Prop) (hI : ∀ C W, (∀ k, C k → k < W.heap.size) → I ps C W → J C W) (hIx : ∀ c pre C W, (∀ k, C k → k < W.heap.size) → pre <+: ps → Ix c pre C W → c = .exit b ∧ J C W)
    (hrest : ∀ (D : Nat) (C : Nat → Prop) (W : World), w.heap.size ≤ D → ¬ C D → (∀ k, C k → k < W.heap.size) → J C W → W.heap[D]? = some (.deferred (some [])) → R .normal { a with defers := { target := .collected D, args := #[] } :: a.defers } W) : EndsC ps I Ix w (Exit.inBlock b R) a := by
  refine ⟨fun D C W hD hn hc hi hK => hrest D C W hD hn hc (hI C W hc hi) hK, fun D c pre C W hD hn hc hp hi hK => ?_⟩
  obtain ⟨rfl, hj⟩ := hIx c pre C W hc hp hi
  refine wp_exit ?_
  have := hrest D C W hD hn hc hj hK
  simpa [Exit.inBlock] using this

theorem room_wide8 (k : Nat) : Fence.wide.room k := fun d h => by cases h
theorem yield_depth {m m' : Nat} {P : Program} {l : Nat} {args : Array Value} {W : World} {R : Ending → World → Prop} (h : YieldAt Fence.wide m P l args W R) : YieldAt Fence.wide m' P l args W R := by
  obtain ⟨fn, tmps, assign, body, hy, h1, h2⟩ := h
  exact ⟨fn, tmps, assign, body, hy, h1, fun c cs _ => h2 c cs (room_wide8 _)⟩

set_option maxHeartbeats 2000000 in
theorem range_boxB (n : Nat) {g : Operand} {pa : Array Tmp} {assign body : Code} {Q : Exit → Act → World → Prop} {a : Act} {w : World} (sx sb : Nat) {gf : Nat} {lb : Array Value} {G : Nat → Prop} {ps : List PairS}
    (hg : a.eval g = .func (.func gf) #[] lb) (eg : ∀ args w, (callFunc gf args).run Try.prog w = .ok (.enter gf args) w)
    (hseq : ∀ W, Keeps G w W → w.heap.size ≤ W.heap.size → RunsC gf lb G ps W) (hG : ∀ k, G k → k < w.heap.size) (hpa : pa.size = 1)
    (I : List PairS → (Nat → Prop) → World → Prop) (Ix : Code → List PairS → (Nat → Prop) → World → Prop) (hI : AbidesC I) (hIx : ∀ c, AbidesC (Ix c))
    (C0 : Nat → Prop) (hC0 : ∀ k, C0 k → k < w.heap.size) (h0 : I [] C0 w)
    (hassign : ∀ (l : Nat) (x : PairS) (W : World) (K : Act → World → Prop),
      (∀ Bx W', W.heap.size ≤ Bx → PairBox W' Bx x → Below W.heap.size W W' → K { tmps := (a.tmps.setIfInBounds sx x.val').setIfInBounds sb (.pointer (some ⟨Bx, 0, none⟩)), defers := [] } W') →
      assign.wpIn (Fence.wide.inRound l) n Try.prog (Exit.then K (fun _ _ _ => False)) { tmps := (pa.zip #[x.val']).foldl (fun t (p, v) => t.setIfInBounds p v) a.tmps, defers := [] } W)
    (hbody : ∀ (l : Nat) (pre : List PairS) (x : PairS) (Bx : Nat) (C : Nat → Prop) (W : World), I pre C W → (∀ k, C k → k < W.heap.size) → w.heap.size ≤ W.heap.size → pre ++ [x] <+: ps → ¬ C Bx → w.heap.size ≤ Bx → PairBox W Bx x →
      body.wpIn (Fence.wide.inRound l) n Try.prog (postC (fun k => C k ∨ k = Bx) G I Ix (pre ++ [x]) W) { tmps := (a.tmps.setIfInBounds sx x.val').setIfInBounds sb (.pointer (some ⟨Bx, 0, none⟩)), defers := [] } W)
    (hend : EndsC ps I Ix w Q a) :
    (Code.rangeFunc g pa assign body).wp Try.prog Q a w := by
  refine (wpIn_wide (n := n)).1 ?_
  refine wpIn_rangeFunc ?_
  intro fn hfn
  obtain ⟨rec, hrec⟩ : ∃ rec : LoopState → Option Code → Loop, rec = fun st pe => { state := st, pending := pe, fn, tmps := a.tmps, params := pa, assign, body, defers := w.heap.size } := ⟨_, rfl⟩
  obtain ⟨W1, hW1⟩ : ∃ W1, (w.alloc (.deferred (some []))).alloc (.loop (rec .ready none)) = W1 := ⟨_, rfl⟩
  have hL1 : W1.heap[w.heap.size + 1]? = some (.loop (rec .ready none)) := by
    rw [← hW1]; have := World.alloc_heap_new (w.alloc (.deferred (some []))) (.loop (rec .ready none)); rwa [World.size_alloc] at this
  have hK1 : W1.heap[w.heap.size]? = some (.deferred (some [])) := by
    rw [← hW1]; exact (Below.heap_alloc _ _ _ (by simp)).trans (World.alloc_heap_new w _)
  have hb1 : Below w.heap.size w W1 := by
    rw [← hW1]; exact ((Below.refl _ w).alloc (Nat.le_refl _) _).alloc (by simp) _
  have hs1 : W1.heap.size = w.heap.size + 2 := by rw [← hW1]; simp
  have hI1 : I [] C0 W1 := hI.later h0 (Stays.of_below hb1 hC0)
  refine ⟨w.heap.size + 1, [{ target := .collected w.heap.size, args := #[] }], W1, { target := .fn (.func gf) lb, args := #[.func (.yield (w.heap.size + 1)) #[] #[]] }, W1, gf,
    #[.func (.yield (w.heap.size + 1)) #[] #[]] ++ lb, W1, ?_, ?_, fun _ _ => trivial, ?_, fun h => (by cases h), ?_⟩
  · rw [← hW1, hrec]; exact run_enterLoop_outer _ _ _ _ _
  · simp only [resolve, hg]
    simp [go_sem]
  · simp [invoke, go_sem, eg]
  · refine callsIn_wide.2 ((hseq W1 (Keeps.of_below hb1 hG) hb1.size (w.heap.size + 1)
      (fun pre Cl W => ∃ C, I pre C W ∧ (∀ k, C k → Cl k) ∧ (∀ k, C k → k < W.heap.size) ∧ ¬ C (w.heap.size + 1) ∧ ¬ C w.heap.size ∧ Cl (w.heap.size + 1) ∧ Cl w.heap.size ∧ W.heap[w.heap.size + 1]? = some (.loop (rec .ready none)) ∧ W.heap[w.heap.size]? = some (.deferred (some [])))
      (fun pre Cl W => ∃ c C, Ix c pre C W ∧ (∀ k, C k → Cl k) ∧ (∀ k, C k → k < W.heap.size) ∧ ¬ C (w.heap.size + 1) ∧ ¬ C w.heap.size ∧ Cl (w.heap.size + 1) ∧ Cl w.heap.size ∧ W.heap[w.heap.size + 1]? = some (.loop (rec .done (some c))) ∧ W.heap[w.heap.size]? = some (.deferred (some [])))
      (fun k => C0 k ∨ k = w.heap.size + 1 ∨ k = w.heap.size) ?ab ?abx ?lt ?round ?start).mono ?post)
    case ab =>
      rintro s Cl Cl' W W' ⟨C, q1, q2, q3, q4, q5, q6, q7, q8, q9⟩ t hc
      exact ⟨C, hI.later q1 (t.mono q2), fun k hk => hc k (q2 k hk), fun k hk => Nat.lt_of_lt_of_le (q3 k hk) t.size, q4, q5, hc _ q6, hc _ q7, (t.block _ q6).trans q8, (t.block _ q7).trans q9⟩
    case abx =>
      rintro s Cl Cl' W W' ⟨c, C, q1, q2, q3, q4, q5, q6, q7, q8, q9⟩ t hc
      exact ⟨c, C, (hIx c).later q1 (t.mono q2), fun k hk => hc k (q2 k hk), fun k hk => Nat.lt_of_lt_of_le (q3 k hk) t.size, q4, q5, hc _ q6, hc _ q7, (t.block _ q6).trans q8, (t.block _ q7).trans q9⟩
    case lt =>
      rintro k (hk | rfl | rfl)
      · have := hC0 k hk; omega
      · omega
      · omega
    case start =>
      exact ⟨C0, hI1, fun k hk => .inl hk, fun k hk => by have := hC0 k hk; omega, fun h => by have := hC0 _ h; omega, fun h => by have := hC0 _ h; omega, .inr (.inl rfl), .inr (.inr rfl), hL1, hK1⟩
    case round =>
      rintro pre x Cl W ⟨C, hi, q2, q3, q4, q5, q6, q7, hl, hk⟩ hCl hWs hp m
      have hlt : w.heap.size + 1 < W.heap.size := (Array.getElem?_eq_some_iff.1 hl).1
      have hy := run_yield (P := Try.prog) (args := #[x.val']) hl (by rw [hrec]; exact hpa.symm)
      rw [hrec] at hy
      refine yield_depth (m := n) ⟨fn, _, assign, body, hy, roundIn_of_wpIn hfn (hassign _ x W _ ?_)⟩
      clear hy
      intro Bx Wa hBx hpx hba
      have hla := (hba.block _ hlt).trans hl
      have hka := (hba.block _ (show w.heap.size < W.heap.size by omega)).trans hk
      refine ⟨_, run_beginRound hla (by rw [hrec]), ?_⟩
      have hsa := hba.size
      obtain ⟨W2, hW2⟩ : ∃ W2, Wa.putObj (w.heap.size + 1) (.loop { rec .ready none with state := .busy }) = W2 := ⟨_, rfl⟩
      rw [hW2]
      have hl2 : W2.heap[w.heap.size + 1]? = some (.loop { rec .ready none with state := .busy }) := by rw [← hW2]; exact World.putObj_heap_same (by omega)
      have hk2 : W2.heap[w.heap.size]? = some (.deferred (some [])) := by rw [← hW2]; exact (World.putObj_heap_other (by omega)).trans hka
      have hs2 : W2.heap.size = Wa.heap.size := by rw [← hW2]; simp
      obtain ⟨Cx, hCx⟩ : ∃ Cx : Nat → Prop, (fun k => C k ∨ k = Bx) = Cx := ⟨_, rfl⟩
      have hCx1 : ∀ k, Cx k → C k ∨ k = Bx := fun k hk => by rw [← hCx] at hk; exact hk
      have hBxl := block_lt hpx
      have hn2 : ¬ Cx (w.heap.size + 1) := fun h => by rcases hCx1 _ h with h | h; exact q4 h; omega
      have hn3 : ¬ Cx w.heap.size := fun h => by rcases hCx1 _ h with h | h; exact q5 h; omega
      have hst : Stays C W W2 := (Stays.of_below hba q3).trans (by rw [← hW2]; exact Stays.putObj Wa _ q4)
      have hi2 : I pre C W2 := hI.later hi hst
      have hc2 : ∀ k, C k → k < W2.heap.size := fun k h => by have := q3 k h; omega
      have hpx2 : PairBox W2 Bx x := by
        rw [← hW2]
        exact (World.putObj_heap_other (by omega)).trans hpx
      have ht2 : Turn Cl W W2 := (Turn.of_below Cl hba).trans (by rw [← hW2]; exact turn_putObj Wa _ q6) (fun i hi => .inl hi)
      have hg2 : Keeps G W W2 := fun k hk => by
        have := hG k hk
        rw [← hW2]
        exact (World.putObj_heap_other (by omega)).trans (hba.block k (by omega))
      refine wpIn_mono (hbody _ pre x Bx C W2 hi2 hc2 (by omega) hp (fun h => by have := q3 _ h; omega) (by omega) hpx2) ?_
      rw [hCx]
      have fin : ∀ (jump : Option Code) (W3 : World), Turn Cx W2 W3 →
          (Instr.endRound (w.heap.size + 1) jump).run Try.prog W3 = .ok (.bool jump.isNone) (W3.putObj (w.heap.size + 1) (.loop (rec (if jump.isNone then .ready else .done) jump))) ∧
          (W3.putObj (w.heap.size + 1) (.loop (rec (if jump.isNone then .ready else .done) jump))).heap[w.heap.size + 1]? = some (.loop (rec (if jump.isNone then .ready else .done) jump)) ∧
          (W3.putObj (w.heap.size + 1) (.loop (rec (if jump.isNone then .ready else .done) jump))).heap[w.heap.size]? = some (.deferred (some [])) ∧
          Turn Cl W (W3.putObj (w.heap.size + 1) (.loop (rec (if jump.isNone then .ready else .done) jump))) ∧
          (∀ k, CNew Cx W2 W3 k → CNew Cl W (W3.putObj (w.heap.size + 1) (.loop (rec (if jump.isNone then .ready else .done) jump))) k) ∧
          (∀ k, CNew Cx W2 W3 k → k < (W3.putObj (w.heap.size + 1) (.loop (rec (if jump.isNone then .ready else .done) jump))).heap.size) ∧
          ¬ CNew Cx W2 W3 (w.heap.size + 1) ∧ ¬ CNew Cx W2 W3 w.heap.size ∧
          Stays (CNew Cx W2 W3) W3 (W3.putObj (w.heap.size + 1) (.loop (rec (if jump.isNone then .ready else .done) jump))) := fun jump W3 hk3 => by
        have hs3 := hk3.size
        have hl3 := (hk3.block _ (by omega) hn2).trans hl2
        have hd3 := (hk3.block _ (by omega) hn3).trans hk2
        have := run_endRound (P := Try.prog) jump hl3
        rw [hrec] at this ⊢
        have hnl : ¬ CNew Cx W2 W3 (w.heap.size + 1) := by rintro (h | h); exact hn2 h; omega
        refine ⟨this, World.putObj_heap_same (by omega), (World.putObj_heap_other (by omega)).trans hd3, ?_, ?_, ?_, hnl, by rintro (h | h); exact hn3 h; omega, Stays.putObj W3 _ hnl⟩
        · refine (ht2.trans hk3 ?_).trans (turn_putObj W3 _ q6) (fun i hi => .inl hi)
          intro i h
          rcases hCx1 i h with h | rfl
          · exact .inl (q2 i h)
          · exact .inr hBx
        · rintro k (h | h)
          · rcases hCx1 k h with h | rfl
            · exact .inl (q2 k h)
            · refine .inr ⟨hBx, ?_⟩
              simp
              omega
          · refine .inr ⟨by omega, ?_⟩
            simp
            omega
        · rintro k (h | h)
          · rcases hCx1 k h with h | rfl
            · have := q3 k h
              simp
              omega
            · simp
              omega
          · simp
            omega
      rintro e a3 W3 hp3
      cases e with
      | normal =>
        obtain ⟨hk3, hkg, hi3⟩ := hp3
        obtain ⟨hr, r1, r2, r3, r4, r5, r6, r7, r8⟩ := fin none W3 hk3
        refine ⟨_, _, hr, r3, .inl ⟨rfl, ⟨_, hI.later hi3 r8, r4, r5, r6, r7, .inl q6, .inl q7, r1, r2⟩, ?_⟩⟩
        refine (hg2.trans hkg).trans fun k hk => ?_
        have := hG k hk
        exact World.putObj_heap_other (by omega)
      | ret =>
        obtain ⟨hk3, hi3⟩ := hp3
        obtain ⟨hr, r1, r2, r3, r4, r5, r6, r7, r8⟩ := fin (some .ret) W3 hk3
        exact ⟨_, _, hr, r3, .inr ⟨rfl, .ret, _, (hIx _).later hi3 r8, r4, r5, r6, r7, .inl q6, .inl q7, r1, r2⟩⟩
      | exit id =>
        obtain ⟨hk3, hi3⟩ := hp3
        obtain ⟨hr, r1, r2, r3, r4, r5, r6, r7, r8⟩ := fin (some (.exit id)) W3 hk3
        exact ⟨_, _, hr, r3, .inr ⟨rfl, .exit id, _, (hIx _).later hi3 r8, r4, r5, r6, r7, .inl q6, .inl q7, r1, r2⟩⟩
      | goto t =>
        obtain ⟨hk3, hi3⟩ := hp3
        obtain ⟨hr, r1, r2, r3, r4, r5, r6, r7, r8⟩ := fin (some (.goto t)) W3 hk3
        exact ⟨_, _, hr, r3, .inr ⟨rfl, .goto t, _, (hIx _).later hi3 r8, r4, r5, r6, r7, .inl q6, .inl q7, r1, r2⟩⟩
      | panic ch => exact hp3.elim
      | outgrown => exact hp3.elim
    case post =>
      rintro e W2 ⟨⟨v, rfl⟩, Cl, hcl, (⟨C, hi, q2, q3, q4, q5, q6, q7, hl, hk⟩ | ⟨pre, hpre, c, C, hi, q2, q3, q4, q5, q6, q7, hl, hk⟩)⟩
      · exact ⟨none, _, by have := run_endLoop (P := Try.prog) hl (by rw [hrec]; simp); rw [hrec] at this; exact this, hend.1 _ C _ (Nat.le_refl _) q5 (fun k hk => by have := q3 k hk; simpa using this) (hI.later hi (Stays.putObj _ _ q4)) ((World.putObj_heap_other (by omega)).trans hk)⟩
      · exact ⟨some c, _, by have := run_endLoop (P := Try.prog) hl (by rw [hrec]; simp); rw [hrec] at this; exact this, wpIn_wide.2 (hend.2 _ c pre C _ (Nat.le_refl _) q5 (fun k hk => by have := q3 k hk; simpa using this) hpre ((hIx c).later hi (Stays.putObj _ _ q4)) ((World.putObj_heap_other (by omega)).trans hk))⟩

/-- .. where the pair's own box is among C. -/
theorem range_boxC (n : Nat) {g : Operand} {pa : Array Tmp} {assign body : Code} {Q : Exit → Act → World → Prop} {a : Act} {w : World} (sx sb : Nat) {gf : Nat} {lb : Array Value} {G : Nat → Prop} {ps : List PairS}
    (hg : a.eval g = .func (.func gf) #[] lb) (eg : ∀ args w, (callFunc gf args).run Try.prog w = .ok (.enter gf args) w)
    (hseq : ∀ W, Keeps G w W → w.heap.size ≤ W.heap.size → RunsC gf lb G ps W) (hG : ∀ k, G k → k < w.heap.size) (hpa : pa.size = 1)
    (I : List PairS → (Nat → Prop) → World → Prop) (Ix : Code → List PairS → (Nat → Prop) → World → Prop) (hI : AbidesC I) (hIx : ∀ c, AbidesC (Ix c))
    (C0 : Nat → Prop) (hC0 : ∀ k, C0 k → k < w.heap.size) (h0 : I [] C0 w)
    (hassign : ∀ (l : Nat) (x : PairS) (W : World) (K : Act → World → Prop),
      (∀ Bx W', W.heap.size ≤ Bx → PairBox W' Bx x → Below W.heap.size W W' → K { tmps := (a.tmps.setIfInBounds sx x.val').setIfInBounds sb (.pointer (some ⟨Bx, 0, none⟩)), defers := [] } W') →
      assign.wpIn (Fence.wide.inRound l) n Try.prog (Exit.then K (fun _ _ _ => False)) { tmps := (pa.zip #[x.val']).foldl (fun t (p, v) => t.setIfInBounds p v) a.tmps, defers := [] } W)
    (hbody : ∀ (l : Nat) (pre : List PairS) (x : PairS) (Bx : Nat) (C : Nat → Prop) (W : World), I pre C W → (∀ k, C k → k < W.heap.size) → w.heap.size ≤ W.heap.size → pre ++ [x] <+: ps → C Bx → w.heap.size ≤ Bx → PairBox W Bx x →
      body.wpIn (Fence.wide.inRound l) n Try.prog (postC C G I Ix (pre ++ [x]) W) { tmps := (a.tmps.setIfInBounds sx x.val').setIfInBounds sb (.pointer (some ⟨Bx, 0, none⟩)), defers := [] } W)
    (hend : EndsC ps I Ix w Q a) :
    (Code.rangeFunc g pa assign body).wp Try.prog Q a w :=
  range_boxB n sx sb hg eg hseq hG hpa I Ix hI hIx C0 hC0 h0 hassign (fun l pre x Bx C W hi hc hs hp _ hb hx => hbody l pre x Bx (fun k => C k ∨ k = Bx) W (hI _ _ _ _ _ hi (Stays.refl _ _) (fun k hk => .inl hk)) (fun k hk => by rcases hk with hk | rfl; exact hc k hk; exact block_lt hx) hs hp (.inr rfl) hb hx) hend
end Go.Proofs.Ytebiipmaimdocaa

namespace Go.Proofs.Ytebiipmaimdocaa
open Go.RowKit Go.Shelf
set_option linter.unusedVariables false

attribute [local go_sem] Oper.semAt_some

/-- A row of the call's own, held by a box; both among C. -/
def HeldC (n₀ B : Nat) (t e : TypeId) (size k : Nat) (xs : List Value) (C : Nat → Prop) (W : World) : Prop :=
  ∃ v, Boxed W B t v ∧ W.ownsRow n₀ e size v k xs ∧ C B ∧ ∀ j, v.ownBlock = some j → C j
theorem stays_row {C : Nat → Prop} {W W' : World} (t : Stays C W W') {base : Nat} {e : TypeId} {size : Nat} {v : Value} {n : Nat} {xs : List Value} (hr : W.ownsRow base e size v n xs) (hc : ∀ k, v.ownBlock = some k → C k) : W'.ownsRow base e size v n xs := by
  refine ⟨hr.1, ?_⟩
  rcases hr.2 with h1 | ⟨g, cap, cur, hv, hb, hgg, rest⟩
  · exact .inl h1
  · subst hv
    exact .inr ⟨g, cap, cur, rfl, hb, (t.block g (hc g rfl)).trans hgg, rest⟩
theorem HeldC.stays {n₀ B : Nat} {t e : TypeId} {size k : Nat} {xs : List Value} {C C' : Nat → Prop} {W W' : World} (h : HeldC n₀ B t e size k xs C W) (s : Stays C W W') (hc : ∀ k, C k → C' k) : HeldC n₀ B t e size k xs C' W' := by
  obtain ⟨v, h1, h2, h3, h4⟩ := h
  exact ⟨v, (s.block B h3).trans h1, stays_row s h2 h4, hc _ h3, fun j hj => hc _ (h4 j hj)⟩
theorem heldC_abides {β : Type} (n₀ B : Nat) (t e : TypeId) (size : Nat) (k : β → Nat) (f : β → List Value) : AbidesC (fun s C W => HeldC n₀ B t e size (k s) (f s) C W) := fun s C C' W W' h t hc => HeldC.stays h t hc
/-- .. what was appended, and stored in the box. -/
theorem heldC_appended {n₀ B : Nat} {t e : TypeId} {size k m : Nat} {xs ys : List Value} {C : Nat → Prop} {W w1 : World} {v v' : Value} {tmp : Obj} (hv : Boxed W B t v) (hr : W.ownsRow n₀ e size v k xs) (hCB : C B) (hCr : ∀ j, v.ownBlock = some j → C j) (hte : t ≠ e) (hn : n₀ ≤ W.heap.size) (hB : n₀ ≤ B)
    (ho : w1.ownsRow n₀ e size v' (k + m) (xs ++ ys)) (hg : (W.alloc tmp).grownBy w1 v.ownBlock) (hw : v'.ownBlock = v.ownBlock ∨ v'.ownBlock = some (W.alloc tmp).heap.size) :
    HeldC n₀ B t e size (k + m) (xs ++ ys) (CNew C W (w1.setCell ⟨B, 0, none⟩ v')) (w1.setCell ⟨B, 0, none⟩ v') ∧ Turn C W (w1.setCell ⟨B, 0, none⟩ v') ∧ Below n₀ W (w1.setCell ⟨B, 0, none⟩ v') ∧ Boxed w1 B t v := by
  obtain ⟨hv1, hv2, hr2, hk2, hb2⟩ := hv.appended hte hr hn hB ho hg
  refine ⟨⟨v', hv2, hr2, .inl hCB, fun j hj => ?_⟩, (((Turn.refl C W).alloc _).grown hg (fun k e => .inl (hCr k e))).setCell (p := ⟨B, 0, none⟩) (.inl hCB) _, hb2, hv1⟩
  rcases hw with hw | hw
  · exact .inl (hCr j (hw ▸ hj))
  · have hlt := (hr2.lt j hj).2
    rw [hw] at hj
    cases hj
    refine .inr ⟨by simp, hlt⟩
/-- Below the call's start, whose blocks are all among C. -/
def LowC (n : Nat) (w : World) (C : Nat → Prop) (W : World) : Prop := Below n w W ∧ ∀ k, k < n → C k
theorem LowC.stays {n : Nat} {w : World} {C C' : Nat → Prop} {W W' : World} (h : LowC n w C W) (t : Stays C W W') (hc : ∀ k, C k → C' k) : LowC n w C' W' :=
  ⟨h.1.trans ⟨t.os, t.tape, t.output, t.size, fun k hk => t.block k (h.2 k hk)⟩, fun k hk => hc k (h.2 k hk)⟩
theorem lowC_abides {β : Type} (n : Nat) (w : World) : AbidesC (fun (_ : β) C W => LowC n w C W) := fun s C C' W W' h t hc => h.stays t hc
theorem LowC.turn {n : Nat} {w : World} {C : Nat → Prop} {W W' : World} (h : LowC n w C W) (t : Below n W W') : LowC n w (CNew C W W') W' := ⟨h.1.trans t, fun k hk => .inl (h.2 k hk)⟩

set_option maxRecDepth 100000 in
set_option maxHeartbeats 2000000 in
theorem append_seqC (g : Nat) (lb : Array Value) (eg : ∀ args w, (callFunc g args).run Try.prog w = .ok (.enter g args) w)
    (G : Nat → Prop) (ps : List PairS) (w : World) (hG : ∀ k, G k → k < w.heap.size) (hN : ps.length ≤ 3518437208880) (hseq : ∀ W, Keeps G w W → w.heap.size ≤ W.heap.size → RunsC g lb G ps W) :
    Calls Try.prog 21 #[.slice none 0 0, .func (.func g) #[] lb] w fun e W' => ∃ v, e = .returned v ∧ W'.ownsRow w.heap.size 29 3 v ps.length (rowP ps) ∧ Below w.heap.size w W' := by
  obtain ⟨i0, hi, hz0, hz1, hz2⟩ := info_parts infoPair
  refine (callsIn_wide (n := 6)).1 ?_
  refine callsIn_of_wp_marks Try.func21 rfl trivial ?_ rfl
  simp only [Try.ntmps21, List.size_toArray, List.length_cons, List.length_nil, Nat.reduceAdd, Nat.reduceSub, Array.replicate_succ, Array.replicate_zero, List.push_toArray, List.append_toArray, List.nil_append, List.cons_append]
  refine wpIn_wide.2 ?_
  go_wp2
  have bO := Boxed.new w 26 (.slice none 0 0)
  have hB0 : Below w.heap.size w (w.alloc (.cells #[.slice none 0 0] 26)) := (Below.refl _ w).alloc (Nat.le_refl _) _
  have hs0 : (w.alloc (.cells #[.slice none 0 0] 26)).heap.size = w.heap.size + 1 := by simp
  refine range_boxC 5 7 5 (gf := g) (lb := lb) (G := G) (ps := ps) rfl eg (fun W hk hs => hseq W ((Keeps.of_below hB0 hG).trans hk) (by omega)) (fun k hk => by have := hG k hk; omega) rfl
    (fun pre C W => HeldC w.heap.size w.heap.size 26 29 3 pre.length (rowP pre) C W ∧ LowC w.heap.size w C W)
    (fun _ _ _ _ => False)
    (AbidesC.and (heldC_abides _ _ _ _ 3 (fun (pre : List PairS) => pre.length) (fun (pre : List PairS) => rowP pre)) (lowC_abides _ _))
    (fun _ _ _ _ _ _ hs _ _ => hs)
    (fun k => k < w.heap.size + 1) (fun k hk => by omega)
    ⟨⟨_, bO, World.ownsRow_nil _ _ _ _, by omega, fun j hj => by simp [Value.ownBlock] at hj⟩, hB0, fun k hk => by omega⟩
    ?assign ?body ?ends
  case assign =>
    intro l x W K hK
    unfold PairS.val' at *
    gi_wp2
    exact hK _ _ (Nat.le_refl _) (PairBox.new W x) ((Below.refl _ W).alloc (Nat.le_refl _) _)
  case body =>
    rintro l pre x Bx C W ⟨⟨v, hv, hrow, hCB, hCr⟩, hB⟩ hC hWs hp hCx hBx hbx
    have hc := hv.cell
    have x0 := hbx.c0
    have x1 := hbx.c1
    have x2 := hbx.c2
    have hlt : pre.length < ps.length := by have := hp.length_le; simp at this; omega
    have hne : (26 : TypeId) ≠ 29 := by decide
    have hBs := hB.1.size
    unfold PairS.val'
    gi_wp2_with (gi_at_builtin; refine wpListIn_append_own_at _ rfl _ _ 26 rfl w.heap.size 29 i0 _ 3 40 Try.underlying26 hi hz0 hz1 hz2 rfl (by decide) _ _ _ rfl (hrow.alloc _) ⟨W.heap.size, 0, none⟩ 1 1 [.string x.key, .string x.val, .bool x.gone] rfl rfl (cells_new _ _) (three_one x) (by unfold maxLen; omega) (by omega) (by simp; omega) ?_; intro v' w1 hown' hgrow _ hwh; obtain ⟨g', cap', rfl⟩ := ownsRow_succ hown'; obtain ⟨hh, ht, hb2, hv1⟩ := heldC_appended hv hrow hCB hCr hne hBs (Nat.le_refl _) hown' hgrow hwh; have hc1 := hv1.cell; have hf1 := hv1.frozen)
    exact ⟨ht, Keeps.of_below hb2 hG, by rw [rowP_snoc, List.length_append]; exact hh, hB.turn hb2⟩
  case ends =>
    refine ⟨?_, fun _ _ _ _ _ _ _ _ _ h _ => h.elim⟩
    rintro D C W hD hn hC ⟨⟨v, hv, hrow, hCB, hCr⟩, hB⟩ hK
    have hc := hv.cell
    go_wp2
    refine ⟨by simp, .inl ⟨_, _, rfl, run_takeDeferred hK, ?_⟩⟩
    exact ⟨_, results_tmp rfl _ _ _, v, rfl, ownsRow_putObj hrow _ hK rfl, hB.1.trans (belowK_b (w := w) (Nat.le_refl _) W D _ _ (by omega) hK rfl rfl)⟩

set_option maxHeartbeats 1000000 in
theorem collectC (g : Nat) (lb : Array Value) (eg : ∀ args w, (callFunc g args).run Try.prog w = .ok (.enter g args) w)
    (G : Nat → Prop) (ps : List PairS) (w : World) (hG : ∀ k, G k → k < w.heap.size) (hN : ps.length ≤ 3518437208880) (hseq : ∀ W, Keeps G w W → w.heap.size ≤ W.heap.size → RunsC g lb G ps W) :
    Calls Try.prog 11 #[.func (.func g) #[] lb] w fun e W' => ∃ v, e = .returned v ∧ W'.ownsRow w.heap.size 29 3 v ps.length (rowP ps) ∧ Below w.heap.size w W' := by
  have H := Lib.hid (append_seqC g lb eg G ps w hG hN hseq)
  clear hseq eg
  go_enter Try.func11, Try.ntmps11
  go_wp2_with fail
  refine H.out.mono ?_
  rintro e w' ⟨v, rfl, hrow, hb⟩
  go_wp2
  go_ret
  exact ⟨v, rfl, hrow, hb⟩
end Go.Proofs.Ytebiipmaimdocaa

namespace Go.Proofs.Ytebiipmaimdocaa
open Go.RowKit Go.Shelf Go.Maps Go.WideMaps
set_option linter.unusedVariables false

attribute [local go_sem] Oper.semAt_some

theorem grown_of8 {w w' : World} (h : Below w.heap.size w w') (row : Option Nat) : w.grownBy w' row := ⟨h.os, h.tape, h.output, h.size, fun k hk _ => h.block k hk⟩
/-- The blocks that a sequence of a slice reads. -/
def ValsG (vb : Nat) (a : Option Addr) (l : List PairS) (i : Nat) : Prop := i = vb ∨ ∃ b o, a = some ⟨b, o, none⟩ ∧ i = b ∧ l ≠ []
theorem read_keeps {W W' : World} {vb : Nat} {a : Option Addr} {c : Nat} {l : List PairS} (h : ReadP W (.slice a l.length c) l) (hk : Keeps (ValsG vb a l) W W') : ReadP W' (.slice a l.length c) l := by
  by_cases hl : l = []
  · exact ⟨h.1, a, c, rfl, .inl hl⟩
  · obtain ⟨hm, a', c', hv, h1⟩ := h
    injection hv with e1 e2 e3
    subst e1
    subst e3
    rcases h1 with h1 | ⟨b, o, rfl, h1⟩
    · exact absurd h1 hl
    · refine ⟨hm, _, _, rfl, .inr ⟨b, o, rfl, fun i hi => ?_⟩⟩
      have hb := hk b (.inr ⟨b, o, rfl, rfl, hl⟩)
      obtain ⟨q0, q1, q2⟩ := h1 i hi
      exact ⟨(World.cell?_of_block (w := W) (a := ⟨b, o + i * 3, none⟩) hb).trans q0, (World.cell?_of_block (w := W) (a := ⟨b, o + i * 3 + 1, none⟩) hb).trans q1, (World.cell?_of_block (w := W) (a := ⟨b, o + i * 3 + 2, none⟩) hb).trans q2⟩

theorem cnew_lt {C : Nat → Prop} {W W' : World} (h : ∀ k, C k → k < W.heap.size) (hs : W.heap.size ≤ W'.heap.size) : ∀ k, CNew C W W' k → k < W'.heap.size := by
  rintro k (h1 | h1)
  · exact Nat.lt_of_lt_of_le (h k h1) hs
  · exact h1.2

set_option maxRecDepth 100000 in
set_option maxHeartbeats 4000000 in
theorem values_inC (y vb : Nat) (a : Option Addr) (c : Nat) (l : List PairS) (J Jx : List PairS → (Nat → Prop) → World → Prop) (C : Nat → Prop) (W : World) (hC : ∀ k, C k → k < W.heap.size)
    (hJ : AbidesC J)
    (hY : ∀ pre x C1 W1, J pre C1 W1 → (∀ k, C1 k → k < W1.heap.size) → W.heap.size ≤ W1.heap.size → pre ++ [x] <+: l → ∀ m, YieldAt Fence.wide m Try.prog y #[PairS.val' x] W1 fun e W' => Turn C1 W1 W' ∧ ((e = .returned (.bool true) ∧ J (pre ++ [x]) (CNew C1 W1 W') W' ∧ Keeps (ValsG vb a l) W1 W') ∨ (e = .returned (.bool false) ∧ Jx (pre ++ [x]) (CNew C1 W1 W') W')))
    (hv : W.cell? ⟨vb, 0, none⟩ = some (.slice a l.length c)) (hR : ReadP W (.slice a l.length c) l) (h0 : J [] C W) :
    Calls Try.prog 25 #[.func (.yield y) #[] #[], .pointer (some ⟨vb, 0, none⟩)] W fun e W' => (∃ v, e = .returned v) ∧ ∃ C', (∀ k, C' k → k < W'.heap.size) ∧ (J l C' W' ∨ ∃ pre, pre <+: l ∧ Jx pre C' W') := by
  have hmx : l.length ≤ 9223372036854775807 := by have := hR.1; unfold maxLen at this; omega
  have HR0 := Lib.hid hR
  have HJ0 : Hid (∃ C, J [] C W ∧ (∀ k, C k → k < W.heap.size)) := ⟨C, h0, hC⟩
  clear hR h0 hC
  refine (callsIn_wide (n := 5)).1 ?_
  refine callsIn_of_wp Try.func25 rfl trivial ?_ rfl
  simp only [Try.ntmps25, List.size_toArray, List.length_cons, List.length_nil, Nat.reduceAdd, Nat.reduceSub, Array.replicate_succ, Array.replicate_zero, List.push_toArray, List.append_toArray, List.nil_append, List.cons_append]
  gi_wp2
  gi_loopw [7] (fun iv wr => ∃ i : Nat, i ≤ l.length ∧ iv = .int .i64 (i : Int) ∧ Hid (ReadP wr (.slice a l.length c) l) ∧ Hid (∃ C, J (l.take i) C wr ∧ (∀ k, C k → k < wr.heap.size)) ∧ Hid (W.heap.size ≤ wr.heap.size)) (fun iv _ => l.length - (intOf iv).toNat)
  case atStart => exact ⟨0, Nat.zero_le _, rfl, HR0, HJ0, Nat.le_refl _⟩
  case round =>
    obtain ⟨i, hi, rfl, HR, hj, HS⟩ := hrel
    clear HR0 HJ0
    by_cases hlt : i < l.length
    · obtain ⟨b, o, rfl, q0, q1, q2⟩ := HR.out.at hlt
      have hbl : Below wr.heap.size wr (wr.alloc (.cells #[.string l[i].key, .string l[i].val, .bool l[i].gone] 29)) := (Below.refl _ wr).alloc (Nat.le_refl _) _
      obtain ⟨C1, hj0, hc1⟩ := hj.out
      have hj1 : J (l.take i) C1 (wr.alloc (.cells #[.string l[i].key, .string l[i].val, .bool l[i].gone] 29)) := hJ.later hj0 (Stays.of_below hbl hc1)
      have HTK : Hid (l.take (i + 1) = l.take i ++ [l[i]]) := List.take_succ_eq_append_getElem hlt
      have HPX : Hid (l.take (i + 1) <+: l) := List.take_prefix _ _
      have hc2 : ∀ k, C1 k → k < (wr.alloc (.cells #[.string l[i].key, .string l[i].val, .bool l[i].gone] 29)).heap.size := fun k hk => by have := hc1 k hk; simp; omega
      have hyy := hY (l.take i) l[i] C1 _ hj1 hc2 (Nat.le_trans HS.out hbl.size) (by rw [← HTK.out]; exact HPX.out) (5 - 1)
      have HRL := Lib.hid (HR.out.below hbl)
      rw [← HTK.out] at hyy
      have hmes : l.length - (intOf (.int .i64 ((i : Int) + 1))).toNat < l.length - (intOf (.int .i64 (i : Int))).toNat := by simp [intOf]; omega
      have HBL : Hid (wr.heap.size ≤ (wr.alloc (.cells #[.string l[i].key, .string l[i].val, .bool l[i].gone] 29)).heap.size) := hbl.size
      have HC2 := Lib.hid hc2
      clear hbl hj1 hj0 hc1 hc2 hj
      generalize l[i] = x at *
      obtain ⟨xk, xv, xg⟩ := x
      unfold PairS.val' at hyy
      simp only at q0 q1 q2 hyy HRL HBL HC2
      obtain ⟨fn, tmps, assign, body, hy, hRR⟩ := hyy
      gi_wp2
      refine hRR.mono ?_
      rintro e W3 ⟨hT, (⟨rfl, hJ3, hk3⟩ | ⟨rfl, hJx3⟩)⟩
      · have HR3 := Lib.hid (read_keeps HRL.out hk3)
        have HJ3 : Hid (∃ C, J (l.take (i + 1)) C W3 ∧ (∀ k, C k → k < W3.heap.size)) := ⟨_, hJ3, cnew_lt HC2.out hT.size⟩
        have HS3 : Hid (W.heap.size ≤ W3.heap.size) := Nat.le_trans HS.out (Nat.le_trans HBL.out hT.size)
        clear hJ3 hk3 hT
        gi_wp2
        exact ⟨⟨i + 1, by omega, by go_num, HR3, HJ3, HS3⟩, hmes⟩
      · have HE : Hid (∃ C', (∀ k, C' k → k < W3.heap.size) ∧ (J l C' W3 ∨ ∃ pre, pre <+: l ∧ Jx pre C' W3)) := ⟨_, cnew_lt HC2.out hT.size, .inr ⟨_, HPX.out, hJx3⟩⟩
        clear hJx3 hT
        gi_wp2
        refine bodyPost_ret (results_none rfl _ _ _) rfl ?_
        exact ⟨⟨_, rfl⟩, HE.out⟩
    · obtain rfl : i = l.length := by omega
      rw [List.take_length] at hj
      gi_wp2
      go_end0
      obtain ⟨C1, hj0, hc1⟩ := hj.out
      exact ⟨⟨_, rfl⟩, C1, hc1, .inl hj0⟩

set_option maxRecDepth 100000 in
set_option maxHeartbeats 1000000 in
theorem values_anyC {w : World} {a : Option Addr} {c : Nat} {l : List PairS} (h : ReadP w (.slice a l.length c) l) :
    Calls Try.prog 16 #[.slice a l.length c] w fun e w' => ∃ g lb G, e = .returned (.func (.func g) #[] lb) ∧ (∀ args w, (callFunc g args).run Try.prog w = .ok (.enter g args) w) ∧
      (∀ w'', Keeps G w' w'' → w'.heap.size ≤ w''.heap.size → RunsC g lb G l w'') ∧ (∀ j, G j → j < w'.heap.size) ∧ Below w.heap.size w w' ∧ ∀ j, G j → w.heap.size ≤ j ∨ ∃ b o, a = some ⟨b, o, none⟩ ∧ j = b ∧ l ≠ [] := by
  have hmf : ∀ (fn : Fn) (first cap : Array Value) (w : World), (Instr.makeFunc fn first cap).run Try.prog w = .ok (.func fn first cap) w := fun _ _ _ _ => rfl
  have hb : Below w.heap.size w (w.alloc (.cells #[.slice a l.length c] 26)) := (Below.refl _ w).alloc (Nat.le_refl _) _
  have hnw := heap_alloc_new w (.cells #[.slice a l.length c] 26)
  have hsz : (w.alloc (.cells #[.slice a l.length c] 26)).heap.size = w.heap.size + 1 := by simp
  have key : ∀ w'', Keeps (ValsG w.heap.size a l) (w.alloc (.cells #[.slice a l.length c] 26)) w'' → (w.alloc (.cells #[.slice a l.length c] 26)).heap.size ≤ w''.heap.size → RunsC 25 #[.pointer (some ⟨w.heap.size, 0, none⟩)] (ValsG w.heap.size a l) l w'' := by
    intro w'' hw hs y J Jx C hJ hJx hC hY h0
    have hbx := (hw w.heap.size (.inl rfl)).trans hnw
    exact values_inC y w.heap.size a c l J Jx C w'' hC hJ hY (by rw [block_cell hbx]; rfl) (read_keeps (h.below hb) hw) h0
  have hG : ∀ j, ValsG w.heap.size a l j → j < (w.alloc (.cells #[.slice a l.length c] 26)).heap.size := fun j hj => by
    rw [hsz]
    rcases hj with hj | ⟨b, o, ha, rfl, hl⟩
    · omega
    · have hp : 0 < l.length := List.length_pos_iff.2 hl
      obtain ⟨b', o', ha', q, _⟩ := h.at hp
      rw [ha] at ha'
      injection ha' with ha'
      injection ha' with e1 e2
      subst e1
      have := World.block_lt_of_cell? w ⟨_, _, none⟩ q
      simp only at this
      omega
  have HK := Lib.hid (And.intro key hG)
  have HB := Lib.hid hb
  clear key hG hb hnw hsz h
  go_enter Try.func16, Try.ntmps16
  go_wp2
  go_ret
  exact ⟨_, _, _, rfl, enters_of Try.func25 (by kernel_rfl) rfl, HK.out.1, HK.out.2, HB.out, fun j hj => by
    rcases hj with hj | hj
    · exact .inl (by omega)
    · exact .inr hj⟩
end Go.Proofs.Ytebiipmaimdocaa

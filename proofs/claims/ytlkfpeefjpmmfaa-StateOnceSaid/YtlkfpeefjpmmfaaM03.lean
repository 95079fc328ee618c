/- Layer 3, plain facts: pairs in the order of their keys; boxes and what their calls make of them. -/
import Derived.Maps.Ext
import Derived.Maps.OwnSet
import Derived.Sort.KeysCollected
namespace Go.Proofs.Ytlkfpeefjpmmfaa
open Go.RowKit Go.Maps Go.Sort
set_option linter.unusedVariables false

abbrev Key := List UInt8

section keyed
variable {α β : Type}

/-- A pair laid where it belongs. -/
def insK (x : Key × α) : List (Key × α) → List (Key × α)
  | [] => [x]
  | y :: r => if bytesBefore x.1 y.1 then x :: y :: r else y :: insK x r
def findK (k : Key) : List (Key × α) → Option α
  | [] => none
  | y :: r => if y.1 = k then some y.2 else findK k r
def dropK (k : Key) (l : List (Key × α)) : List (Key × α) := l.filter fun p => !(p.1 == k)
/-- The pair of a key that is there, anew. -/
def updK (k : Key) (a : α) : List (Key × α) → List (Key × α)
  | [] => []
  | y :: r => if y.1 = k then (k, a) :: r else y :: updK k a r
def mapK (f : α → β) (l : List (Key × α)) : List (Key × β) := l.map fun p => (p.1, f p.2)

theorem findK_cons (k : Key) (y : Key × α) (r : List (Key × α)) : findK k (y :: r) = if y.1 = k then some y.2 else findK k r := rfl
theorem insK_map (f : α → β) (x : Key × α) (l : List (Key × α)) : mapK f (insK x l) = insK (x.1, f x.2) (mapK f l) := by
  induction l with
  | nil => rfl
  | cons y r ih =>
    simp only [insK, mapK, List.map_cons]
    split
    · rfl
    · simp only [List.map_cons]
      exact congrArg _ ih
theorem findK_map (f : α → β) (k : Key) (l : List (Key × α)) : findK k (mapK f l) = (findK k l).map f := by
  induction l with
  | nil => rfl
  | cons y r ih =>
    simp only [findK, mapK, List.map_cons]
    split
    · rfl
    · exact ih
theorem dropK_map (f : α → β) (k : Key) (l : List (Key × α)) : mapK f (dropK k l) = dropK k (mapK f l) := by
  simp only [mapK, dropK, List.filter_map]; rfl
theorem updK_map (f : α → β) (k : Key) (a : α) (l : List (Key × α)) : mapK f (updK k a l) = updK k (f a) (mapK f l) := by
  induction l with
  | nil => rfl
  | cons y r ih =>
    simp only [updK, mapK, List.map_cons]
    split
    · rfl
    · simp only [List.map_cons]
      exact congrArg _ ih
theorem mapK_mapK {γ : Type} (f : α → β) (g : β → γ) (l : List (Key × α)) : mapK g (mapK f l) = mapK (fun a => g (f a)) l := by simp [mapK]
theorem mapK_keys (f : α → β) (l : List (Key × α)) : (mapK f l).map (·.1) = l.map (·.1) := by simp [mapK]
theorem mapK_len (f : α → β) (l : List (Key × α)) : (mapK f l).length = l.length := by simp [mapK]

theorem insK_perm (x : Key × α) (l : List (Key × α)) : (insK x l).Perm (x :: l) := by
  induction l with
  | nil => exact List.Perm.refl _
  | cons y r ih =>
    unfold insK
    split
    · exact List.Perm.refl _
    · exact (ih.cons y).trans (List.Perm.swap x y r)
theorem insK_len (x : Key × α) (l : List (Key × α)) : (insK x l).length = l.length + 1 := (insK_perm x l).length_eq
theorem updK_len (k : Key) (a : α) (l : List (Key × α)) : (updK k a l).length = l.length := by
  induction l with
  | nil => rfl
  | cons y r ih => unfold updK; split <;> simp [ih]
theorem updK_keys (k : Key) (a : α) (l : List (Key × α)) : (updK k a l).map (·.1) = l.map (·.1) := by
  induction l with
  | nil => rfl
  | cons y r ih =>
    unfold updK
    split
    · rename_i h; simp [h]
    · simp [ih]
theorem findK_mem {k : Key} {a : α} {l : List (Key × α)} (h : findK k l = some a) : (k, a) ∈ l := by
  induction l with
  | nil => cases h
  | cons y r ih =>
    unfold findK at h
    split at h
    · rename_i hk
      injection h with h
      subst h; subst hk
      simp
    · exact List.mem_cons_of_mem _ (ih h)
theorem findK_none {k : Key} {l : List (Key × α)} : findK k l = none ↔ ∀ p ∈ l, p.1 ≠ k := by
  induction l with
  | nil => simp [findK]
  | cons y r ih =>
    unfold findK
    split
    · rename_i h; simp [h]
    · rename_i h; rw [ih]; simp [h]
theorem dropK_none {k : Key} {l : List (Key × α)} (h : findK k l = none) : dropK k l = l := by
  rw [findK_none] at h
  unfold dropK
  rw [List.filter_eq_self]
  intro p hp
  simpa using h p hp
theorem findK_ins {k k' : Key} {a : α} {l : List (Key × α)} (h : findK k l = none) : findK k' (insK (k, a) l) = if k = k' then some a else findK k' l := by
  induction l with
  | nil => simp [insK, findK]
  | cons y r ih =>
    unfold findK at h
    split at h
    · cases h
    · rename_i hy
      unfold insK
      split
      · conv => lhs; unfold findK
      · unfold findK
        split
        · rename_i h2
          rw [if_neg (fun e => hy (by rw [h2, e]))]
        · exact ih h
theorem findK_upd {k k' : Key} {a b : α} {l : List (Key × α)} (h : findK k l = some b) : findK k' (updK k a l) = if k = k' then some a else findK k' l := by
  induction l with
  | nil => cases h
  | cons y r ih =>
    unfold findK at h
    split at h
    · rename_i hy
      unfold updK
      rw [if_pos hy]
      simp only [findK]
      split
      · rfl
      · rename_i h2
        rw [if_neg (fun e => h2 (by rw [← hy, e]))]
    · rename_i hy
      unfold updK
      rw [if_neg hy]
      simp only [findK]
      split
      · rename_i h2
        rw [if_neg (fun e => hy (by rw [h2, e]))]
      · exact ih h
theorem mem_upd {k : Key} {a : α} {l : List (Key × α)} {p : Key × α} (h : p ∈ updK k a l) : p = (k, a) ∨ p ∈ l := by
  induction l with
  | nil => cases h
  | cons y r ih =>
    unfold updK at h
    split at h
    · rcases List.mem_cons.1 h with h | h
      · exact .inl h
      · exact .inr (List.mem_cons_of_mem _ h)
    · rcases List.mem_cons.1 h with h | h
      · exact .inr (by simp [h])
      · rcases ih h with h | h
        · exact .inl h
        · exact .inr (List.mem_cons_of_mem _ h)
/-- .. and what is left of the old pairs lies apart from the one that was changed. -/
theorem mem_upd' {R : (Key × α) → (Key × α) → Prop} (hs : ∀ {x y}, R x y → R y x) {k : Key} {a b : α} {l : List (Key × α)} (h : findK k l = some b) (hp : l.Pairwise R) {p : Key × α} (hm : p ∈ updK k a l) : p = (k, a) ∨ (p ∈ l ∧ R (k, b) p) := by
  induction l with
  | nil => cases h
  | cons y r ih =>
    obtain ⟨h1, h2⟩ := List.pairwise_cons.1 hp
    unfold findK at h
    split at h
    · rename_i hy
      injection h with h
      unfold updK at hm
      rw [if_pos hy] at hm
      obtain ⟨y1, y2⟩ := y
      simp only at hy h
      subst hy; subst h
      rcases List.mem_cons.1 hm with hm | hm
      · exact .inl hm
      · exact .inr ⟨List.mem_cons_of_mem _ hm, h1 p hm⟩
    · rename_i hy
      unfold updK at hm
      rw [if_neg hy] at hm
      rcases List.mem_cons.1 hm with rfl | hm
      · exact .inr ⟨by simp, hs (h1 _ (findK_mem h))⟩
      · rcases ih h h2 hm with h3 | ⟨h3, h4⟩
        · exact .inl h3
        · exact .inr ⟨List.mem_cons_of_mem _ h3, h4⟩
theorem updK_same {k : Key} {a : α} {l : List (Key × α)} (h : findK k l = some a) : updK k a l = l := by
  induction l with
  | nil => rfl
  | cons y r ih =>
    unfold findK at h
    unfold updK
    split at h
    · rename_i hy
      injection h with h
      rw [if_pos hy, ← h, ← hy]
    · rename_i hy
      rw [if_neg hy, ih h]
theorem upd_ins {k : Key} {a b : α} {l : List (Key × α)} (h : findK k l = none) : updK k a (insK (k, b) l) = insK (k, a) l := by
  induction l with
  | nil => simp [insK, updK]
  | cons y r ih =>
    unfold findK at h
    split at h
    · cases h
    · rename_i hy
      unfold insK
      split
      · simp [updK]
      · unfold updK
        rw [if_neg hy, ih h]
theorem dropK_sub {k : Key} {l : List (Key × α)} {p : Key × α} (h : p ∈ dropK k l) : p ∈ l ∧ p.1 ≠ k := by
  unfold dropK at h
  obtain ⟨h1, h2⟩ := List.mem_filter.1 h
  exact ⟨h1, by simpa using h2⟩
theorem findK_drop {k k' : Key} (l : List (Key × α)) : findK k' (dropK k l) = if k = k' then none else findK k' l := by
  induction l with
  | nil => simp [dropK, findK]
  | cons y r ih =>
    by_cases hy : y.1 = k
    · have e : dropK k (y :: r) = dropK k r := by simp [dropK, hy]
      rw [e, ih]
      split
      · rfl
      · rename_i hk
        rw [findK_cons, if_neg (fun e => hk (by rw [← hy, e]))]
    · have e : dropK k (y :: r) = y :: dropK k r := by simp [dropK, hy]
      rw [e, findK_cons, findK_cons, ih]
      by_cases h2 : y.1 = k'
      · rw [if_pos h2, if_neg (fun e => hy (by rw [h2, e])), if_pos h2]
      · rw [if_neg h2, if_neg h2]
/-- What holds of any two pairs holds behind a change of one, if the new one keeps to it. -/
theorem pairwise_upd {R : (Key × α) → (Key × α) → Prop} (hs : ∀ {x y}, R x y → R y x) {k : Key} {a b : α} {l : List (Key × α)} (h : findK k l = some b) (hp : l.Pairwise R) (hn : ∀ p, p ∈ l → R (k, b) p → R (k, a) p) : (updK k a l).Pairwise R := by
  induction l with
  | nil => cases h
  | cons y r ih =>
    obtain ⟨h1, h2⟩ := List.pairwise_cons.1 hp
    unfold findK at h
    split at h
    · rename_i hy
      injection h with h
      unfold updK
      rw [if_pos hy]
      refine List.pairwise_cons.2 ⟨fun p hpm => hn p (List.mem_cons_of_mem _ hpm) ?_, h2⟩
      have := h1 p hpm
      obtain ⟨y1, y2⟩ := y
      simp only at hy h
      subst hy; subst h
      exact this
    · rename_i hy
      unfold updK
      rw [if_neg hy]
      refine List.pairwise_cons.2 ⟨fun p hpm => ?_, ih h h2 (fun p hm => hn p (List.mem_cons_of_mem _ hm))⟩
      rcases mem_upd hpm with rfl | hpm
      · exact hs (hn y (by simp) (hs (h1 _ (findK_mem h))))
      · exact h1 p hpm
end keyed

/-! ### such a list as a map's reading -/
abbrev DU := DataW Unit
def dOf (l : List (Key × Nat)) : List (Lit × DU) := l.map fun p => (.string p.1, .lit (.int .i64 (p.2 : Int)))
def toD (l : List (Key × Nat)) : DU := .map (dOf l)

theorem dOf_ins (x : Key × Nat) (l : List (Key × Nat)) : dOf (insK x l) = DataW.insert (.string x.1, .lit (.int .i64 (x.2 : Int))) (dOf l) := by
  induction l with
  | nil => rfl
  | cons y r ih =>
    by_cases h : bytesBefore x.1 y.1 = true
    · simp [insK, dOf, DataW.insert, Lit.before, h]
    · have e : dOf (insK x (y :: r)) = (.string y.1, .lit (.int .i64 (y.2 : Int))) :: dOf (insK x r) := by simp [insK, dOf, h]
      rw [e, ih]
      simp [dOf, DataW.insert, Lit.before, h]
theorem dOf_drop (k : Key) (l : List (Key × Nat)) : dOf (dropK k l) = (dOf l).filter (fun p => !p.1.sameKey (.string k)) := by
  simp only [dOf, dropK, List.filter_map]; rfl
theorem toD_ins {k : Key} {q : Nat} {l : List (Key × Nat)} (h : findK k l = none) : (toD l).put (.string k) (.lit (.int .i64 (q : Int))) = toD (insK (k, q) l) := by
  show DataW.map (DataW.insert _ ((dOf l).filter _)) = DataW.map _
  rw [dOf_ins, ← dOf_drop, dropK_none h]
theorem toD_del (k : Key) (l : List (Key × Nat)) : (toD l).del (.string k) = toD (dropK k l) := by
  show DataW.map ((dOf l).filter _) = DataW.map _
  rw [dOf_drop]
theorem toD_at (k : Key) (l : List (Key × Nat)) : (toD l).atKey (.string k) .nil = match findK k l with | none => .nil | some q => .lit (.int .i64 (q : Int)) := by
  induction l with
  | nil => rfl
  | cons y r ih =>
    unfold findK
    simp only [toD, dOf, List.map_cons, DataW.atKey] at ih ⊢
    by_cases h : y.1 = k
    · rw [if_pos h, List.find?_cons_of_pos (by simp [Lit.sameKey, h])]
    · rw [if_neg h, List.find?_cons_of_neg (by simp [Lit.sameKey, h])]
      exact ih
theorem toD_keys (l : List (Key × Nat)) : strKeys (toD l) = l.map (·.1) := by
  simp [toD, dOf, strKeys, strOf]
theorem toD_size (l : List (Key × Nat)) : Maps.size (toD l) = l.length := by simp [toD, dOf, Maps.size]

/-- In the rising order of the keys. -/
def Rising {α : Type} (l : List (Key × α)) : Prop := l.Pairwise fun a b => bytesBefore a.1 b.1 = true
theorem rising_of_canon {l : List (Key × Nat)} (h : Canon (toD l)) : Rising l := by
  obtain ⟨es, he, hp, _⟩ := h
  injection he with he
  subst he
  unfold dOf at hp
  rw [List.pairwise_map] at hp
  exact hp
theorem rising_map {α β : Type} (f : α → β) {l : List (Key × α)} : Rising (mapK f l) ↔ Rising l := by
  unfold Rising mapK
  rw [List.pairwise_map]

theorem before_lt : ∀ a b : Key, bytesBefore a b = true ↔ a < b
  | [], [] => by simp [bytesBefore]
  | [], _ :: _ => by simp [bytesBefore]
  | _ :: _, [] => by simp [bytesBefore]
  | a :: r, b :: s => by
    rw [List.cons_lt_cons_iff, ← before_lt r s]
    simp [bytesBefore]

/-- The names, sorted: just so they stand. -/
theorem sorted_names {α : Type} {l : List (Key × α)} (h : Rising l) {ss : List Key} (hp : ss.Perm (l.map (·.1))) : ss.mergeSort (fun x y => decide (x ≤ y)) = l.map (·.1) := by
  have tr : ∀ a b c : Key, decide (a ≤ b) = true → decide (b ≤ c) = true → decide (a ≤ c) = true := fun a b c h1 h2 => by simp only [decide_eq_true_eq] at *; exact List.le_trans h1 h2
  have tot : ∀ a b : Key, (decide (a ≤ b) || decide (b ≤ a)) = true := fun a b => by
    rcases List.le_total a b with h | h <;> simp [h]
  refine List.Perm.eq_of_pairwise (le := fun a b => a ≤ b) ?_ ?_ ?_ ((List.mergeSort_perm _ _).trans hp)
  · intro a b _ _ h1 h2; exact List.le_antisymm h1 h2
  · exact (List.pairwise_mergeSort tr tot ss).imp (fun {a b} h => by simpa using h)
  · rw [List.pairwise_map]
    exact h.imp (fun {a b} hab => List.le_of_lt ((before_lt _ _).1 hab))

/-! ### boxes -/
/-- A file: its bytes; how many of them are durable. -/
structure FileS where
  bytes : List UInt8
  dur : Nat
structure Bx where
  files : List (Key × FileS)
  fuel : Int
  down : Bool

def Bx.new : Bx := ⟨[], -1, false⟩
def nameOK (n : Key) : Bool := decide (1 ≤ n.length ∧ n.length ≤ 32)
def Bx.fall (S : Bx) : Bx := { S with down := true }
def Bx.burnt (S : Bx) : Bx := { S with fuel := if 0 < S.fuel then S.fuel - 1 else S.fuel }
/-- A change of the files of a box that is up. -/
def Bx.change (S : Bx) (f : List (Key × FileS)) : Bx × Int := if S.fuel = 0 then (S.fall, 30) else ({ S.burnt with files := f }, 0)
def addF (d : List UInt8) (f : FileS) : FileS := ⟨f.bytes ++ d, f.dur⟩
def addK (n : Key) (d : List UInt8) (l : List (Key × FileS)) : List (Key × FileS) :=
  match findK n l with
  | none => insK (n, ⟨d, 0⟩) l
  | some f => updK n (addF d f) l
def Bx.append (S : Bx) (n : Key) (d : List UInt8) : Bx × Int :=
  if S.down then (S, 30) else if nameOK n = false then (S, 1) else S.change (addK n d S.files)
def firmF (f : FileS) : FileS := ⟨f.bytes, f.bytes.length⟩
def Bx.sync (S : Bx) (n : Key) : Bx × Int :=
  if S.down then (S, 30) else match findK n S.files with
  | none => (S, 31)
  | some f => S.change (updK n (firmF f) S.files)
def Bx.delete (S : Bx) (n : Key) : Bx × Int :=
  if S.down then (S, 30) else match findK n S.files with
  | none => (S, 31)
  | some _ => S.change (dropK n S.files)
def Bx.read (S : Bx) (n : Key) : List UInt8 × Int :=
  if S.down then ([], 30) else match findK n S.files with
  | none => ([], 31)
  | some f => (f.bytes, 0)
theorem Bx.read_down {S : Bx} {n : Key} (h : S.down = true) : S.read n = ([], 30) := by unfold Bx.read; rw [if_pos h]
theorem Bx.read_none {S : Bx} {n : Key} (h : S.down = false) (hf : findK n S.files = none) : S.read n = ([], 31) := by unfold Bx.read; rw [if_neg (by simp [h]), hf]
theorem Bx.read_some {S : Bx} {n : Key} {f : FileS} (h : S.down = false) (hf : findK n S.files = some f) : S.read n = (f.bytes, 0) := by unfold Bx.read; rw [if_neg (by simp [h]), hf]
theorem Bx.sync_down {S : Bx} {n : Key} (h : S.down = true) : S.sync n = (S, 30) := by unfold Bx.sync; rw [if_pos h]
theorem Bx.sync_none {S : Bx} {n : Key} (h : S.down = false) (hf : findK n S.files = none) : S.sync n = (S, 31) := by unfold Bx.sync; rw [if_neg (by simp [h]), hf]
theorem Bx.sync_some {S : Bx} {n : Key} {f : FileS} (h : S.down = false) (hf : findK n S.files = some f) : S.sync n = S.change (updK n (firmF f) S.files) := by unfold Bx.sync; rw [if_neg (by simp [h]), hf]
theorem Bx.delete_down {S : Bx} {n : Key} (h : S.down = true) : S.delete n = (S, 30) := by unfold Bx.delete; rw [if_pos h]
theorem Bx.delete_none {S : Bx} {n : Key} (h : S.down = false) (hf : findK n S.files = none) : S.delete n = (S, 31) := by unfold Bx.delete; rw [if_neg (by simp [h]), hf]
theorem Bx.delete_some {S : Bx} {n : Key} {f : FileS} (h : S.down = false) (hf : findK n S.files = some f) : S.delete n = S.change (dropK n S.files) := by unfold Bx.delete; rw [if_neg (by simp [h]), hf]
theorem Bx.append_down {S : Bx} {n : Key} {d : List UInt8} (h : S.down = true) : S.append n d = (S, 30) := by unfold Bx.append; rw [if_pos h]
theorem Bx.append_bad {S : Bx} {n : Key} {d : List UInt8} (h : S.down = false) (hn : nameOK n = false) : S.append n d = (S, 1) := by unfold Bx.append; rw [if_neg (by simp [h]), if_pos hn]
theorem Bx.append_ok {S : Bx} {n : Key} {d : List UInt8} (h : S.down = false) (hn : nameOK n = true) : S.append n d = S.change (addK n d S.files) := by unfold Bx.append; rw [if_neg (by simp [h]), if_neg (by simp [hn])]
theorem Bx.change_no {S : Bx} {f : List (Key × FileS)} (h : S.fuel = 0) : S.change f = (S.fall, 30) := by unfold Bx.change; rw [if_pos h]
theorem Bx.change_yes {S : Bx} {f : List (Key × FileS)} (h : S.fuel ≠ 0) : S.change f = ({ S.burnt with files := f }, 0) := by unfold Bx.change; rw [if_neg h]
def keptN (keep : List Int) (k : Nat) : Nat := (keep.getD k 0).toNat
/-- What a crash leaves of a file, the k-th one with soft bytes if it has some. -/
def leftN (keep : List Int) (k : Nat) (f : FileS) : Nat := if f.dur < f.bytes.length then f.dur + min (keptN keep k) (f.bytes.length - f.dur) else f.dur
def crashStep (keep : List Int) (a : List (Key × FileS) × Nat) (x : Key × FileS) : List (Key × FileS) × Nat :=
  (if 0 < leftN keep a.2 x.2 then insK (x.1, ⟨x.2.bytes.take (leftN keep a.2 x.2), leftN keep a.2 x.2⟩) a.1 else a.1, if x.2.dur < x.2.bytes.length then a.2 + 1 else a.2)
def crashL (keep : List Int) (l : List (Key × FileS)) : List (Key × FileS) × Nat := l.foldl (crashStep keep) ([], 0)
def Bx.crash (S : Bx) (keep : List Int) : Bx := ⟨(crashL keep S.files).1, -1, false⟩

/-- How much a box holds. -/
def weigh (l : List (Key × FileS)) : Nat := (l.map fun p => p.2.bytes.length + 1).sum

theorem crashL_take {keep : List Int} {l : List (Key × FileS)} {i : Nat} (h : i < l.length) : crashL keep (l.take (i + 1)) = crashStep keep (crashL keep (l.take i)) l[i] := by
  rw [crashL, List.take_succ_eq_append_getElem h, List.foldl_append]; rfl

theorem crashStep_keys {keep : List Int} {a : List (Key × FileS) × Nat} {x : Key × FileS} {q : Key × FileS} (h : q ∈ (crashStep keep a x).1) : q ∈ a.1 ∨ q.1 = x.1 := by
  unfold crashStep at h
  simp only at h
  split at h
  · rcases List.mem_cons.1 ((insK_perm _ _).mem_iff.1 h) with rfl | h
    · exact .inr rfl
    · exact .inl h
  · exact .inl h
theorem crashL_keys {keep : List Int} {l : List (Key × FileS)} : ∀ k, k ≤ l.length → ∀ q ∈ (crashL keep (l.take k)).1, ∃ j, ∃ h : j < l.length, j < k ∧ l[j].1 = q.1 := by
  intro k
  induction k with
  | zero => intro _ q hq; simp [crashL] at hq
  | succ k ih =>
    intro hk q hq
    rw [crashL_take (by omega)] at hq
    rcases crashStep_keys hq with h | h
    · obtain ⟨j, hj, h1, h2⟩ := ih (by omega) q h
      exact ⟨j, hj, by omega, h2⟩
    · exact ⟨k, by omega, by omega, h.symm⟩
theorem bytes_irrefl (a : Key) : bytesBefore a a = false := by
  cases h : bytesBefore a a with
  | false => rfl
  | true => exact absurd ((before_lt a a).1 h) (List.lt_irrefl a)
theorem rising_ne {α : Type} {l : List (Key × α)} (h : Rising l) {i j : Nat} (hi : i < l.length) (hj : j < l.length) (hij : i < j) : l[i].1 ≠ l[j].1 := by
  intro e
  have := (List.pairwise_iff_getElem.1 h) i j hi hj hij
  rw [e, bytes_irrefl] at this
  cases this
theorem crashL_fresh {keep : List Int} {l : List (Key × FileS)} (h : Rising l) {k : Nat} (hk : k < l.length) : findK l[k].1 (crashL keep (l.take k)).1 = none := by
  rw [findK_none]
  intro q hq e
  obtain ⟨j, hj, hjk, he⟩ := crashL_keys k (by omega) q hq
  exact rising_ne h hj hk hjk (he.trans e)
theorem crashL_len {keep : List Int} {l : List (Key × FileS)} : ∀ k, k ≤ l.length → (crashL keep (l.take k)).1.length ≤ k ∧ (crashL keep (l.take k)).2 ≤ k := by
  intro k
  induction k with
  | zero => intro _; simp [crashL]
  | succ k ih =>
    intro hk
    have := ih (by omega)
    rw [crashL_take (by omega)]
    unfold crashStep
    simp only
    constructor
    · split
      · rw [insK_len]; omega
      · omega
    · split <;> omega
theorem findK_at {α : Type} {l : List (Key × α)} (h : Rising l) {k : Nat} (hk : k < l.length) : findK l[k].1 l = some l[k].2 := by
  induction l generalizing k with
  | nil => simp at hk
  | cons y r ih =>
    rw [findK_cons]
    cases k with
    | zero => simp
    | succ k =>
      have hk' : k < r.length := by simpa using hk
      have h2 := rising_ne h (i := 0) (j := k + 1) (by simp) hk (by omega)
      simp only [List.getElem_cons_zero, List.getElem_cons_succ] at h2 ⊢
      rw [if_neg h2]
      exact ih (List.pairwise_cons.1 h).2 hk'

end Go.Proofs.Ytlkfpeefjpmmfaa

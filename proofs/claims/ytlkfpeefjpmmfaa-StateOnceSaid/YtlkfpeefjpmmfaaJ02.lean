/- Joined: M01r M01t M01i. -/
import Derived.Test.YtlkfpeefjpmmfaaM01
import Derived.WalkSmall
import Derived.SliceStrings

namespace Go.Proofs.Ytlkfpeefjpmmfaa
open Go.RowKit
set_option linter.unusedVariables false

/-- A reader in memory: 'none': it is bad; 'some l': l is left. -/
structure RD (w : World) (b : Nat) (R : Option (List UInt8)) (s : ByteArray) : Prop where
  text : s.data.toList = R.getD []
  c0 : w.cell? ⟨b, 0, none⟩ = some (.string s)
  c1 : w.cell? ⟨b, 1, none⟩ = some (.bool R.isNone)
  f0 : w.frozen? ⟨b, 0, none⟩ = false
  f1 : w.frozen? ⟨b, 1, none⟩ = false
  size : s.size ≤ 140737488351232

/-- A reader in memory whose text is told by its state alone. -/
def RDE (w : World) (b : Nat) (R : Option (List UInt8)) : Prop := ∃ s, RD w b R s

theorem RDE.lt {w : World} {b : Nat} {R : Option (List UInt8)} (h : RDE w b R) : b < w.heap.size := by
  obtain ⟨s, h⟩ := h
  exact World.block_lt_of_cell? w ⟨b, 0, none⟩ h.c0

theorem RDE.block {w w' : World} {b : Nat} {R : Option (List UInt8)} (h : RDE w b R) (hb : w'.heap[b]? = w.heap[b]?) : RDE w' b R := by
  obtain ⟨s, h⟩ := h
  exact ⟨s, h.text, (World.cell?_of_block (w := w) (a := ⟨b, 0, none⟩) hb).trans h.c0, (World.cell?_of_block (w := w) (a := ⟨b, 1, none⟩) hb).trans h.c1,
    (World.frozen?_of_block (w := w) (a := ⟨b, 0, none⟩) hb).trans h.f0, (World.frozen?_of_block (w := w) (a := ⟨b, 1, none⟩) hb).trans h.f1, h.size⟩

theorem RDE.kept {w w' : World} {b : Nat} {R : Option (List UInt8)} {row : Option Nat} (h : RDE w b R) (hg : w.grownBy w' row) (hr : some b ≠ row) : RDE w' b R :=
  h.block (hg.block b h.lt hr)

theorem RDE.below {w w' : World} {b : Nat} {R : Option (List UInt8)} (h : RDE w b R) (hg : Below w.heap.size w w') : RDE w' b R := h.block (hg.block b h.lt)

theorem grownBy_set (w : World) (a : Addr) (v : Value) : w.grownBy (w.setCell a v) (some a.block) :=
  ⟨rfl, rfl, rfl, by simp [World.setCell], fun k _ hk => Below.heap_setCell _ _ _ _ (by intro e; exact hk (by rw [e]))⟩

theorem grownBy_trans {a b c : World} {row : Option Nat} (h : a.grownBy b row) (k : b.grownBy c row) : a.grownBy c row :=
  ⟨k.os.trans h.os, k.tape.trans h.tape, k.output.trans h.output, Nat.le_trans h.size k.size, fun i hi hr => (k.block i (Nat.lt_of_lt_of_le hi h.size) hr).trans (h.block i hi hr)⟩

theorem grownBy_refl (a : World) (row : Option Nat) : a.grownBy a row := ⟨rfl, rfl, rfl, Nat.le_refl _, fun _ _ _ => rfl⟩

theorem grownBy_drewN {a b : World} {row : Option Nat} (h : a.grownBy b row) (n : Nat) : a.grownBy (b.drewN n) row :=
  grownBy_trans h ⟨rfl, rfl, rfl, Nat.le_refl _, fun _ _ _ => rfl⟩

theorem grownBy_below {a b : World} (row : Option Nat) (h : Below a.heap.size a b) : a.grownBy b row := ⟨h.os, h.tape, h.output, h.size, fun k hk _ => h.block k hk⟩

theorem below_grownBy {a b : World} {B r : Nat} (h : a.grownBy b (some r)) (hB : B ≤ a.heap.size) (hr : B ≤ r) : Below B a b :=
  (Below.refl B a).grown h hB (fun k hk => by injection hk with hk; omega)

theorem rd_fail {w : World} {b : Nat} {R : Option (List UInt8)} {s : ByteArray} (h : RD w b R s) : RDE ((w.setCell ⟨b, 0, none⟩ (.string ⟨#[]⟩)).setCell ⟨b, 1, none⟩ (.bool true)) b none :=
  ⟨⟨#[]⟩, rfl, by rw [World.cell?_setCell_other _ _ _ _ (by intro e; injection e with _ e; cases e), World.cell?_setCell_same _ _ _ h.c0],
    by rw [World.cell?_setCell_same _ _ _ (by rw [World.cell?_setCell_other _ _ _ _ (by intro e; injection e with _ e; cases e)]; exact h.c1)]; rfl,
    by rw [World.frozen?_setCell, World.frozen?_setCell]; exact h.f0, by rw [World.frozen?_setCell, World.frozen?_setCell]; exact h.f1, by decide⟩

theorem rd_set {w : World} {b : Nat} {l l' : List UInt8} {s s' : ByteArray} (h : RD w b (some l) s) (hl : s'.data.toList = l') (hs : s'.size ≤ s.size) : RDE (w.setCell ⟨b, 0, none⟩ (.string s')) b (some l') :=
  ⟨s', by rw [hl]; rfl, by rw [World.cell?_setCell_same _ _ _ h.c0],
    by rw [World.cell?_setCell_other _ _ _ _ (by intro e; injection e with _ e; cases e)]; exact h.c1,
    by rw [World.frozen?_setCell]; exact h.f0, by rw [World.frozen?_setCell]; exact h.f1, Nat.le_trans hs h.size⟩

theorem RD.drewN {w : World} {b : Nat} {R : Option (List UInt8)} {s : ByteArray} (h : RD w b R s) (n : Nat) : RD (w.drewN n) b R s :=
  ⟨h.text, h.c0, h.c1, h.f0, h.f1, h.size⟩

theorem fail_grown (w : World) (b : Nat) : w.grownBy ((w.setCell ⟨b, 0, none⟩ (.string ⟨#[]⟩)).setCell ⟨b, 1, none⟩ (.bool true)) (some b) :=
  grownBy_trans (grownBy_set w ⟨b, 0, none⟩ _) (grownBy_set _ ⟨b, 1, none⟩ _)

/-- The next number, at most 'most'; what is left. -/
def numS (most : Nat) : Option (List UInt8) → Nat × Option (List UInt8)
  | none => (0, none)
  | some l => match getL l with
    | some (n, k) => if n ≤ most then (n, some (l.drop k)) else (0, none)
    | none => (0, none)

def intS (most : Int) (R : Option (List UInt8)) : Nat × Option (List UInt8) := if most < 0 then (0, none) else numS most.toNat R

def takeS (n : Int) : Option (List UInt8) → List UInt8 × Option (List UInt8)
  | none => ([], none)
  | some l => if n < 0 ∨ (l.length : Int) < n then ([], none) else (l.take n.toNat, some (l.drop n.toNat))

def textS : Option (List UInt8) → List UInt8 × Option (List UInt8)
  | none => ([], none)
  | some l => match getL l with
    | some (n, k) => if n ≤ (l.drop k).length then ((l.drop k).take n, some ((l.drop k).drop n)) else ([], none)
    | none => ([], none)

/-- Is all read? -/
def endS (R : Option (List UInt8)) : Bool := R == some []

theorem endS_none : endS none = false := rfl
theorem endS_some (s : ByteArray) (l : List UInt8) (h : s.data.toList = l) : endS (some l) = s.toList.isEmpty := by
  rw [Lib.toList_data, h]
  cases l <;> rfl

theorem numS_hit {most n k : Nat} {l : List UInt8} (h : getL l = some (n, k)) (hn : n ≤ most) : numS most (some l) = (n, some (l.drop k)) := by simp [numS, h, hn]
theorem numS_great {most n k : Nat} {l : List UInt8} (h : getL l = some (n, k)) (hn : ¬ n ≤ most) : numS most (some l) = (0, none) := by simp [numS, h, hn]
theorem numS_not {most : Nat} {l : List UInt8} (h : getL l = none) : numS most (some l) = (0, none) := by simp [numS, h]

theorem size_drop {s t : ByteArray} {l : List UInt8} {k : Nat} (hs : s.data.toList = l) (ht : t.data.toList = l.drop k) : t.size ≤ s.size := by
  have h1 := congrArg List.length hs
  have h2 := congrArg List.length ht
  simp only [Array.length_toList, List.length_drop] at h1 h2
  show t.data.size ≤ s.data.size
  omega

theorem RDE.drewN {w : World} {b : Nat} {R : Option (List UInt8)} (h : RDE w b R) (n : Nat) : RDE (w.drewN n) b R := by
  obtain ⟨s, h⟩ := h
  exact ⟨s, h.drewN n⟩

theorem intS_neg (R : Option (List UInt8)) {most : Int} (h : most < 0) : intS most R = (0, none) := by simp [intS, h]
theorem intS_pos (R : Option (List UInt8)) (m : Nat) : intS (m : Int) R = numS m R := by
  unfold intS; rw [if_neg (by omega)]; simp
theorem numS_le (m : Nat) (R : Option (List UInt8)) : (numS m R).1 ≤ m := by
  unfold numS
  split
  · simp
  · split
    · split <;> simp_all
    · simp

theorem takeS_neg {n : Int} {l : List UInt8} (h : n < 0) : takeS n (some l) = ([], none) := by simp [takeS, h]
theorem takeS_more {n : Int} {l : List UInt8} (h : (l.length : Int) < n) : takeS n (some l) = ([], none) := by simp [takeS, h]
theorem takeS_ok {n : Nat} {l : List UInt8} (h : n ≤ l.length) : takeS (n : Int) (some l) = (l.take n, some (l.drop n)) := by
  simp only [takeS]
  rw [if_neg (by omega)]; simp

theorem size_of {s : ByteArray} {l : List UInt8} (hs : s.data.toList = l) : l.length = s.size := by rw [← hs]; simp

theorem extract_form {s : ByteArray} {l : List UInt8} (hs : s.data.toList = l) (k : Nat) : s.extract 0 k = ⟨(l.take k).toArray⟩ := by
  apply ByteArray.ext
  apply Array.toList_inj.1
  rw [extract_take, hs]

theorem textS_int (l : List UInt8) : textS (some l) = takeS ((intS (l.length : Int) (some l)).1 : Int) (intS (l.length : Int) (some l)).2 := by
  rw [intS_pos]
  simp only [textS, numS]
  cases hg : getL l with
  | none => rfl
  | some p =>
    obtain ⟨n, k⟩ := p
    have hp := getL_pos hg
    simp only
    by_cases h : n ≤ (l.drop k).length
    · have h2 : n ≤ l.length := by rw [List.length_drop] at h; omega
      rw [if_pos h, if_pos h2, takeS_ok h]
    · rw [if_neg h]
      by_cases h2 : n ≤ l.length
      · rw [if_pos h2, takeS_more (by omega)]
      · rw [if_neg h2]; rfl

theorem numS_top {n k : Nat} {l : List UInt8} (h : getL l = some (n, k)) : numS 18446744073709551615 (some l) = (n, some (l.drop k)) := by
  have := (getL_put h).1.out
  exact numS_hit h (by omega)

/-- The reference's Int out of its Num. -/
theorem intS_top (most : Nat) (R : Option (List UInt8)) : intS (most : Int) R = if (numS 18446744073709551615 R).2 = none ∨ most < (numS 18446744073709551615 R).1 then (0, none) else numS 18446744073709551615 R := by
  rw [intS_pos]
  cases R with
  | none => rfl
  | some l =>
    cases hg : getL l with
    | none => rw [numS_not hg, numS_not hg]; rfl
    | some p =>
      obtain ⟨n, k⟩ := p
      rw [numS_top hg]
      by_cases h : n ≤ most
      · rw [numS_hit hg h, if_neg (by simp; omega)]
      · rw [numS_great hg h, if_pos (by right; simp only; omega)]

theorem textS_top (R : Option (List UInt8)) : textS R = match numS 18446744073709551615 R with
    | (n, some r) => if r.length < n then ([], none) else takeS (n : Int) (some r)
    | (_, none) => ([], none) := by
  cases R with
  | none => rfl
  | some l =>
    cases hg : getL l with
    | none => rw [numS_not hg]; simp [textS, hg]
    | some p =>
      obtain ⟨n, k⟩ := p
      rw [numS_top hg]
      simp only [textS, hg]
      by_cases h : n ≤ (l.drop k).length
      · rw [if_pos h, if_neg (by omega), takeS_ok h]
      · rw [if_neg h, if_pos (by omega)]

theorem numS_lt (R : Option (List UInt8)) : (numS 18446744073709551615 R).1 < 18446744073709551616 := by
  have := numS_le 18446744073709551615 R
  omega

/-- What a call leaves: the reader at b, nothing else turned. -/
def Left (w w' : World) (b : Nat) (R : Option (List UInt8)) : Prop := RDE w' b R ∧ w.grownBy w' (some b)

theorem Left.trans {a b c : World} {x : Nat} {R S : Option (List UInt8)} (h : Left a b x R) (k : Left b c x S) : Left a c x S := ⟨k.1, grownBy_trans h.2 k.2⟩

theorem RDE.drew {w : World} {b : Nat} {R : Option (List UInt8)} (h : RDE w b R) : RDE w.drew b R := h.block rfl

theorem Left.other {w w' : World} {b c : Nat} {R S : Option (List UInt8)} (h : Left w w' b R) (k : RDE w c S) (hne : c ≠ b) : RDE w' c S := k.kept h.2 (by simpa using hne)

theorem Left.cell {w w' : World} {b c j : Nat} {R : Option (List UInt8)} {v : Value} (h : Left w w' b R) (k : w.cell? ⟨c, j, none⟩ = some v) (hne : c ≠ b) : w'.cell? ⟨c, j, none⟩ = some v :=
  (World.cell?_of_block (w := w) (a := ⟨c, j, none⟩) (h.2.block c (World.block_lt_of_cell? w ⟨c, j, none⟩ k) (by simpa using hne))).trans k

theorem Left.below {w w' : World} {b B : Nat} {R : Option (List UInt8)} (h : Left w w' b R) (hB : B ≤ w.heap.size) (hb : B ≤ b) : Below B w w' := below_grownBy h.2 hB hb

end Go.Proofs.Ytlkfpeefjpmmfaa

namespace Go.Proofs.Ytlkfpeefjpmmfaa
open Go.RowKit
set_option linter.unusedVariables false

/-- A slice of elements of one cell each that came in: it is empty, or its elements lie in a row. -/
structure Row1 (W : World) (a : Option Addr) (len : Nat) (V : Nat → Value) : Prop where
  max : len ≤ 9223372036854775807
  row : len = 0 ∨ ∃ b off, a = some ⟨b, off, none⟩ ∧ b < W.heap.size ∧ ∀ i, i < len → W.cell? ⟨b, off + i, none⟩ = some (V i)

theorem Row1.at {W : World} {a : Option Addr} {len : Nat} {V : Nat → Value} (h : Row1 W a len V) {k : Nat} (hk : k < len) :
    ∃ b off, a = some ⟨b, off, none⟩ ∧ b < W.heap.size ∧ W.cell? ⟨b, off + k, none⟩ = some (V k) := by
  rcases h.row with h0 | ⟨b, off, ha, hb, hc⟩
  · omega
  · exact ⟨b, off, ha, hb, hc k hk⟩

/-- In a world that is as it was below. -/
theorem Row1.in {W w : World} {a : Option Addr} {len : Nat} {V : Nat → Value} (h : Row1 W a len V) (hw : Below W.heap.size W w) {k : Nat} (hk : k < len) :
    ∃ b off, a = some ⟨b, off, none⟩ ∧ w.cell? ⟨b, off + k, none⟩ = some (V k) := by
  obtain ⟨b, off, ha, hb, hc⟩ := h.at hk
  exact ⟨b, off, ha, (hw.cell (p := ⟨b, off + k, none⟩) hb).trans hc⟩

def encs (zs : List Nat) : List UInt8 := zs.flatMap putL
def enct (ss : List ByteArray) : List UInt8 := ss.flatMap fun s => putL s.size ++ s.data.toList

theorem encs_cons (n : Nat) (zs : List Nat) : encs (n :: zs) = putL n ++ encs zs := rfl
theorem enct_cons (s : ByteArray) (ss : List ByteArray) : enct (s :: ss) = putL s.size ++ (s.data.toList ++ enct ss) := by simp [enct]

theorem encs_take {zs : List Nat} {k : Nat} (h : k < zs.length) : encs (zs.take (k + 1)) = encs (zs.take k) ++ putL zs[k] := by
  rw [List.take_succ_eq_append_getElem h, encs, encs, List.flatMap_append]; simp only [List.flatMap_cons, List.flatMap_nil, List.append_nil]
theorem enct_take {ss : List ByteArray} {k : Nat} (h : k < ss.length) : enct (ss.take (k + 1)) = enct (ss.take k) ++ (putL ss[k].size ++ ss[k].data.toList) := by
  rw [List.take_succ_eq_append_getElem h, enct, enct, List.flatMap_append]; simp only [List.flatMap_cons, List.flatMap_nil, List.append_nil]
theorem encs_drop {zs : List Nat} {k : Nat} (h : k < zs.length) : encs (zs.drop k) = putL zs[k] ++ encs (zs.drop (k + 1)) := by
  rw [List.drop_eq_getElem_cons h, encs_cons]
theorem enct_drop {ss : List ByteArray} {k : Nat} (h : k < ss.length) : enct (ss.drop k) = putL ss[k].size ++ (ss[k].data.toList ++ enct (ss.drop (k + 1))) := by
  rw [List.drop_eq_getElem_cons h, enct_cons]

theorem encs_len (zs : List Nat) (h : ∀ n ∈ zs, U64 n) : (encs zs).length ≤ 10 * zs.length := by
  induction zs with
  | nil => simp [encs]
  | cons n zs ih =>
    have h1 := putL_len10 (h n (by simp))
    have h2 := ih (fun m hm => h m (by simp [hm]))
    rw [encs_cons, List.length_append, List.length_cons]; omega

/-- How many bytes texts have together. -/
def sizes (ss : List ByteArray) : Nat := (ss.map ByteArray.size).sum
theorem sizes_cons (s : ByteArray) (ss : List ByteArray) : sizes (s :: ss) = s.size + sizes ss := by simp [sizes]
theorem size_le_sizes {s : ByteArray} {ss : List ByteArray} (h : s ∈ ss) : s.size ≤ sizes ss := by
  induction ss with
  | nil => cases h
  | cons x r ih =>
    rw [sizes_cons]
    rcases List.mem_cons.1 h with rfl | h
    · omega
    · have := ih h; omega

theorem enct_len (ss : List ByteArray) (h : sizes ss ≤ 1048576) : (enct ss).length ≤ 10 * ss.length + sizes ss := by
  induction ss with
  | nil => simp [enct, sizes]
  | cons s ss ih =>
    rw [sizes_cons] at h
    have h1 := putL_len10 (n := s.size) (by unfold U64; omega)
    have h2 := ih (by omega)
    rw [enct_cons, sizes_cons]
    simp only [List.length_append, List.length_cons, Array.length_toList]
    have : s.data.size = s.size := rfl
    omega

theorem enct_mono {ss : List ByteArray} {k : Nat} (h : k ≤ ss.length) : (enct (ss.take k)).length ≤ (enct ss).length := by
  have e : enct ss = enct (ss.take k) ++ enct (ss.drop k) := by rw [enct, enct, enct, ← List.flatMap_append, List.take_append_drop]
  rw [e, List.length_append]; omega
theorem encs_mono {zs : List Nat} {k : Nat} (h : k ≤ zs.length) : (encs (zs.take k)).length ≤ (encs zs).length := by
  have e : encs zs = encs (zs.take k) ++ encs (zs.drop k) := by rw [encs, encs, encs, ← List.flatMap_append, List.take_append_drop]
  rw [e, List.length_append]; omega

theorem numS_put {n : Nat} (h : U64 n) (r : List UInt8) : numS 18446744073709551615 (some (putL n ++ r)) = (n, some r) := by
  rw [numS_top (getL_of_put h r)]
  simp

theorem textS_put {s : ByteArray} (h : U64 s.size) (r : List UInt8) : textS (some (putL s.size ++ (s.data.toList ++ r))) = (s.data.toList, some r) := by
  rw [textS_top, numS_put h]
  have hl : s.data.toList.length = s.size := by simp
  simp only
  rw [if_neg (by rw [List.length_append]; omega), takeS_ok (by rw [List.length_append]; omega), ← hl]
  simp

theorem concat_form {s t : ByteArray} {l r : List UInt8} (hs : s.data.toList = l) (ht : t.data.toList = r) : (s ++ t).data.toList = l ++ r := by
  simp [hs, ht]

theorem concat_size (s t : ByteArray) : (s ++ t).size = s.size + t.size := by simp

end Go.Proofs.Ytlkfpeefjpmmfaa

namespace Go.Proofs.Ytlkfpeefjpmmfaa
set_option linter.unusedVariables false

/-! Reading, backwards. -/
theorem num_read {m n : Nat} (h : n ≤ m) (h2 : U64 n) (r : List UInt8) : numS m (some (putL n ++ r)) = (n, some r) := by
  rw [numS_hit (getL_of_put h2 r) h]; simp
theorem int_read {m n : Nat} (h : n ≤ m) (h2 : U64 n) (r : List UInt8) : intS (m : Int) (some (putL n ++ r)) = (n, some r) := by
  rw [intS_pos, num_read h h2]
theorem num_inv {m n : Nat} {l r : List UInt8} (h : numS m (some l) = (n, some r)) : n ≤ m ∧ U64 n ∧ l = putL n ++ r := by
  unfold numS at h
  simp only at h
  cases hg : getL l with
  | none => rw [hg] at h; simp at h
  | some p =>
    obtain ⟨a, k⟩ := p
    rw [hg] at h
    simp only at h
    have hp := getL_put hg
    split at h
    · rename_i ha
      injection h with h1 h2
      injection h2 with h2
      subst h1
      refine ⟨ha, hp.1, ?_⟩
      rw [hp.2.1, ← h2, List.take_append_drop]
    · injection h with h1 h2; cases h2
theorem int_inv {m : Int} {n : Nat} {l r : List UInt8} (h : intS m (some l) = (n, some r)) : (n : Int) ≤ m ∧ U64 n ∧ l = putL n ++ r := by
  unfold intS at h
  split at h
  · injection h with h1 h2; cases h2
  · have := num_inv h
    exact ⟨by omega, this.2⟩
theorem int_none (m : Int) : intS m none = (0, none) := by unfold intS; split <;> rfl
theorem take_read {n : Nat} (t r : List UInt8) (h : t.length = n) : takeS (n : Int) (some (t ++ r)) = (t, some r) := by
  rw [takeS_ok (by rw [List.length_append]; omega), ← h]; simp
theorem take_inv {n : Nat} {l t r : List UInt8} (h : takeS (n : Int) (some l) = (t, some r)) : l = t ++ r ∧ t.length = n := by
  simp only [takeS] at h
  split at h
  · injection h with h1 h2; cases h2
  · injection h with h1 h2
    injection h2 with h2
    subst h1
    subst h2
    simp
    omega
theorem take_none (n : Int) : takeS n none = ([], none) := rfl
theorem text_read {t : List UInt8} (h : U64 t.length) (r : List UInt8) : textS (some (putL t.length ++ (t ++ r))) = (t, some r) := by
  rw [textS_top, numS_put h]
  simp only
  rw [if_neg (by rw [List.length_append]; omega), take_read t r rfl]
theorem text_inv {l t r : List UInt8} (h : textS (some l) = (t, some r)) : U64 t.length ∧ l = putL t.length ++ (t ++ r) := by
  rw [textS_top] at h
  cases hn : numS 18446744073709551615 (some l) with
  | mk n o =>
    rw [hn] at h
    cases o with
    | none => injection h with h1 h2; cases h2
    | some q =>
      simp only at h
      obtain ⟨_, h2, rfl⟩ := num_inv hn
      split at h
      · injection h with h1 h2; cases h2
      · obtain ⟨h3, h4⟩ := take_inv h
        subst h4
        exact ⟨h2, by rw [h3]⟩
theorem text_none : textS none = ([], none) := rfl
end Go.Proofs.Ytlkfpeefjpmmfaa

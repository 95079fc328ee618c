/- Joined: M07 M07b M07c M07d R07 R07b. -/
import Derived.Test.YtlakemcbfeogkaaG5
import Derived.Test.YtlakemcbfeogkaaG2
import Derived.Test.YtlakemcbfeogkaaG6
import Derived.Test.YtlakemcbfeogkaaG1
import Derived.WalkArith
import Derived.Deep.CutBlock
import Derived.Deep.CutRange
import Derived.Deep.RegionHeld3
import Derived.Deep.QuietTactic
import Derived.BigQuiet

namespace Go.Proofs.Ytlakemcbfeogkaa
open Go.RowKit
set_option linter.unusedVariables false

/-! Reading, backwards. -/
theorem num_read {m n : Nat} (h : n ≤ m) (h2 : U64 n) (r : List UInt8) : numS m (some (putL n ++ r)) = (n, some r) := by
  rw [numS_hit (getL_of_put h2 r) h]; simp
theorem int_read {m n : Nat} (h : n ≤ m) (h2 : U64 n) (r : List UInt8) : intS (m : Int) (some (putL n ++ r)) = (n, some r) := by
  rw [intS_pos, num_read h h2]
theorem num_inv {m n : Nat} {l r : List UInt8} (h : numS m (some l) = (n, some r)) : n ≤ m ∧ U64 n ∧ l = putL n ++ r := by
  unfold numS at h
  simp only at h
  cases hg : getL l with
  | none => rw [hg] at h; simp at h
  | some p =>
    obtain ⟨a, k⟩ := p
    rw [hg] at h
    simp only at h
    have hp := getL_put hg
    split at h
    · rename_i ha
      injection h with h1 h2
      injection h2 with h2
      subst h1
      refine ⟨ha, hp.1, ?_⟩
      rw [hp.2.1, ← h2, List.take_append_drop]
    · injection h with h1 h2; cases h2
theorem int_inv {m : Int} {n : Nat} {l r : List UInt8} (h : intS m (some l) = (n, some r)) : (n : Int) ≤ m ∧ U64 n ∧ l = putL n ++ r := by
  unfold intS at h
  split at h
  · injection h with h1 h2; cases h2
  · have := num_inv h
    exact ⟨by omega, this.2⟩
theorem int_none (m : Int) : intS m none = (0, none) := by unfold intS; split <;> rfl
theorem take_read {n : Nat} (t r : List UInt8) (h : t.length = n) : takeS (n : Int) (some (t ++ r)) = (t, some r) := by
  rw [takeS_ok (by rw [List.length_append]; omega), ← h]; simp
theorem take_inv {n : Nat} {l t r : List UInt8} (h : takeS (n : Int) (some l) = (t, some r)) : l = t ++ r ∧ t.length = n := by
  simp only [takeS] at h
  split at h
  · injection h with h1 h2; cases h2
  · injection h with h1 h2
    injection h2 with h2
    subst h1
    subst h2
    simp
    omega
theorem take_none (n : Int) : takeS n none = ([], none) := rfl
theorem text_read {t : List UInt8} (h : U64 t.length) (r : List UInt8) : textS (some (putL t.length ++ (t ++ r))) = (t, some r) := by
  rw [textS_top, numS_put h]
  simp only
  rw [if_neg (by rw [List.length_append]; omega), take_read t r rfl]
theorem text_inv {l t r : List UInt8} (h : textS (some l) = (t, some r)) : U64 t.length ∧ l = putL t.length ++ (t ++ r) := by
  rw [textS_top] at h
  cases hn : numS 18446744073709551615 (some l) with
  | mk n o =>
    rw [hn] at h
    cases o with
    | none => injection h with h1 h2; cases h2
    | some q =>
      simp only at h
      obtain ⟨_, h2, rfl⟩ := num_inv hn
      split at h
      · injection h with h1 h2; cases h2
      · obtain ⟨h3, h4⟩ := take_inv h
        subst h4
        exact ⟨h2, by rw [h3]⟩
theorem text_none : textS none = ([], none) := rfl

/-! Frames, backwards. -/
theorem nextL_inv {l a r : List UInt8} (h : nextL l = (0, a, r)) : a.length ≤ 1048576 ∧ l = frameL a ++ r := by
  by_cases hc : isCut l = true
  · rw [nextL_cut hc] at h; injection h with h; cases h
  have hc : isCut l = false := by simpa using hc
  cases hg : getL l with
  | none => rw [nextL_none hc hg] at h; injection h with h; cases h
  | some p =>
    obtain ⟨n, k⟩ := p
    have hp := getL_put hg
    by_cases hn : 1048576 < n
    · rw [nextL_great hc hg hn] at h; injection h with h; cases h
    by_cases hl : l.length - k < 4 + n
    · rw [nextL_short hc hg hn hl] at h; injection h with h; cases h
    by_cases hs : (l.drop k).take 4 = sumL (((l.drop k).take (4 + n)).drop 4)
    · rw [nextL_ok hc hg hn hl hs] at h
      injection h with _ h
      injection h with h1 h2
      have hlen : a.length = n := by rw [← h1, List.length_drop, List.length_take, List.length_drop]; omega
      refine ⟨by omega, ?_⟩
      rw [frameL, hlen, hp.2.1, ← h1, ← h2, ← hs, List.append_assoc, List.append_assoc]
      have e1 : (l.drop k).take 4 ++ (((l.drop k).take (4 + n)).drop 4 ++ (l.drop k).drop (4 + n)) = l.drop k := by
        have e2 : (l.drop k).take 4 ++ ((l.drop k).take (4 + n)).drop 4 = (l.drop k).take (4 + n) := by
          have e3 : (l.drop k).take 4 = ((l.drop k).take (4 + n)).take 4 := by rw [List.take_take]; congr 1; omega
          rw [e3, List.take_append_drop]
        rw [← List.append_assoc, e2, List.take_append_drop]
      rw [e1, List.take_append_drop]
    · rw [nextL_wrong hc hg hn hl hs] at h; injection h with h; cases h
theorem scanL_inv : ∀ (fs : List (List UInt8)) (l r : List UInt8), scanL l = (fs, r) → l = framesL fs ++ r ∧ ∀ a ∈ fs, a.length ≤ 1048576
  | [], l, r, h => by
    rw [scanL] at h
    split at h
    · injection h with h; cases h
    · injection h with _ h; subst h; exact ⟨rfl, fun a h => by cases h⟩
  | a :: fs, l, r, h => by
    rw [scanL] at h
    split at h
    · rename_i h0
      injection h with h1 h2
      injection h1 with h1 h3
      have hn : nextL l = (0, (nextL l).2.1, (nextL l).2.2) := by rw [← h0]
      obtain ⟨h4, h5⟩ := nextL_inv hn
      obtain ⟨h6, h7⟩ := scanL_inv fs (nextL l).2.2 r (by rw [← h3, ← h2])
      rw [h1] at h4 h5
      refine ⟨by rw [framesL_cons, List.append_assoc, ← h6]; exact h5, fun b hb => ?_⟩
      rcases List.mem_cons.1 hb with rfl | hb
      · exact h4
      · exact h7 b hb
    · injection h with h; cases h

/-! Pairs. -/
theorem fine_iff (x : PairS) : wrongP x = 0 ↔ 1 ≤ x.key.size ∧ x.key.size ≤ 64 ∧ x.val.size ≤ 8192 ∧ (x.gone = true → x.val.size = 0) := by
  unfold wrongP
  split
  · rename_i h
    constructor
    · intro h; cases h
    · rintro ⟨h1, h2, h3, h4⟩
      rcases h with h | ⟨h5, h6⟩
      · omega
      · exact absurd (h4 h5) h6
  · rename_i h
    simp only [not_or, not_and] at h
    split
    · rename_i h2
      constructor
      · intro h; cases h
      · rintro ⟨h1, h3, h4, h5⟩; omega
    · rename_i h2
      refine ⟨fun _ => ⟨by omega, by omega, by omega, fun hg => ?_⟩, fun _ => rfl⟩
      have := h.2 hg
      omega
def valL (x : PairS) : List UInt8 := if x.gone then putL 0 else putL (x.val.size + 1) ++ x.val.data.toList
/-- A pair's bytes. -/
def pairL (x : PairS) : List UInt8 := putL x.key.size ++ (x.key.data.toList ++ valL x)
def blockL (xs : List PairS) : List UInt8 := xs.flatMap pairL
theorem blockL_cons (x : PairS) (xs : List PairS) : blockL (x :: xs) = pairL x ++ blockL xs := rfl
theorem blockL_append (xs ys : List PairS) : blockL (xs ++ ys) = blockL xs ++ blockL ys := by simp [blockL]
theorem blockL_snoc (xs : List PairS) (x : PairS) : blockL (xs ++ [x]) = blockL xs ++ pairL x := by simp [blockL]
theorem pairL_pos (x : PairS) : 1 ≤ (pairL x).length := by
  have := putL_pos x.key.size
  unfold pairL
  rw [List.length_append]; omega
theorem small8 {n : Nat} (h : n ≤ 140737488355328) : U64 n := by unfold U64; omega
theorem pairL_len {x : PairS} (h : wrongP x = 0) : (pairL x).length ≤ x.key.size + x.val.size + 20 := by
  obtain ⟨h1, h2, h3, h4⟩ := (fine_iff x).1 h
  have e1 := putL_len10 (small8 (n := x.key.size) (by omega))
  have e2 := putL_len10 (small8 (n := x.val.size + 1) (by omega))
  have e3 := putL_len10 (small8 (n := 0) (by omega))
  have k1 : x.key.data.toList.length = x.key.size := by simp
  have k2 : x.val.data.toList.length = x.val.size := by simp
  unfold pairL valL
  split
  · simp only [List.length_append]; omega
  · simp only [List.length_append]; omega
theorem blockL_len : ∀ {xs : List PairS}, FineP xs → (blockL xs).length ≤ sizeP xs + 20 * xs.length
  | [], _ => by simp [blockL]
  | x :: xs, h => by
    have h1 := pairL_len (h x (by simp))
    have h2 := blockL_len (xs := xs) (fun y hy => h y (by simp [hy]))
    rw [blockL_cons, List.length_append, List.length_cons, sizeP_cons]
    omega

/-- What is read of a pair: its key, the number behind it, its value, what is left. -/
def readP (l : List UInt8) : List UInt8 × Nat × List UInt8 × Option (List UInt8) :=
  ((textS (some l)).1, (intS 8193 (textS (some l)).2).1,
   if 0 < (intS 8193 (textS (some l)).2).1 then takeS (((intS 8193 (textS (some l)).2).1 : Int) - 1) (intS 8193 (textS (some l)).2).2 else ([], (intS 8193 (textS (some l)).2).2))
theorem ba_eq {s : ByteArray} : (⟨s.data.toList.toArray⟩ : ByteArray) = s := by
  apply ByteArray.ext; simp
theorem readP_fine {x : PairS} (h : wrongP x = 0) (r : List UInt8) : readP (pairL x ++ r) = (x.key.data.toList, if x.gone then 0 else x.val.size + 1, x.val.data.toList, some r) := by
  obtain ⟨h1, h2, h3, h4⟩ := (fine_iff x).1 h
  have e1 : textS (some (pairL x ++ r)) = (x.key.data.toList, some (valL x ++ r)) := by
    unfold pairL
    rw [List.append_assoc, List.append_assoc, textS_put (small8 (by omega))]
  unfold readP
  rw [e1]
  cases hg : x.gone with
  | true =>
    have e2 : intS 8193 (some (valL x ++ r)) = (0, some r) := by
      unfold valL
      rw [if_pos hg]
      exact int_read (m := 8193) (by omega) (small8 (by omega)) r
    have e3 : x.val.data.toList = [] := by
      have := h4 hg
      have k2 : x.val.data.toList.length = x.val.size := by simp
      exact List.eq_nil_of_length_eq_zero (by omega)
    simp only [e2]
    rw [if_neg (by omega), e3]
    simp
  | false =>
    have e2 : intS 8193 (some (valL x ++ r)) = (x.val.size + 1, some (x.val.data.toList ++ r)) := by
      unfold valL
      rw [hg, if_neg (by simp), List.append_assoc]
      exact int_read (m := 8193) (by omega) (small8 (by omega)) _
    have e3 : takeS ((x.val.size + 1 : Nat) - 1 : Int) (some (x.val.data.toList ++ r)) = (x.val.data.toList, some r) := by
      rw [show ((x.val.size + 1 : Nat) - 1 : Int) = (x.val.size : Int) by omega]
      exact take_read _ _ (by simp)
    simp only [e2]
    rw [if_pos (by omega), e3]
    simp
theorem readP_inv {l k v r : List UInt8} {n : Nat} (h : readP l = (k, n, v, some r)) (hk : 1 ≤ k.length) (hk2 : k.length ≤ 64) :
    wrongP ⟨⟨k.toArray⟩, ⟨v.toArray⟩, decide (n = 0)⟩ = 0 ∧ l = pairL ⟨⟨k.toArray⟩, ⟨v.toArray⟩, decide (n = 0)⟩ ++ r := by
  unfold readP at h
  injection h with h1 h
  injection h with h2 h3
  cases ht : textS (some l) with
  | mk t o =>
    rw [ht] at h1 h2 h3
    subst h1
    cases o with
    | none =>
      simp only [int_none] at h2 h3
      subst h2
      rw [if_neg (by omega)] at h3
      injection h3 with h3 h4; cases h4
    | some l1 =>
      simp only at h2 h3
      obtain ⟨t1, t2⟩ := text_inv ht
      cases hi : intS 8193 (some l1) with
      | mk m o =>
        rw [hi] at h2 h3
        subst h2
        cases o with
        | none =>
          simp only [take_none] at h3
          split at h3 <;> (injection h3 with h3 h4; cases h4)
        | some l2 =>
          obtain ⟨i1, i2, i3⟩ := int_inv hi
          simp only at h3
          by_cases hm : 0 < m
          · rw [if_pos hm, show ((m : Int) - 1) = ((m - 1 : Nat) : Int) by omega] at h3
            obtain ⟨k1, k2⟩ := take_inv h3
            have hd : decide (m = 0) = false := decide_eq_false (by omega)
            have hv : (⟨v.toArray⟩ : ByteArray).size = v.length := by show v.toArray.size = _; simp
            have hkk : (⟨t.toArray⟩ : ByteArray).size = t.length := by show t.toArray.size = _; simp
            rw [hd]
            refine ⟨(fine_iff _).2 ⟨?_, ?_, ?_, ?_⟩, ?_⟩
            · simp only [hkk]; exact hk
            · simp only [hkk]; exact hk2
            · simp only [hv]; omega
            · intro h; cases h
            · unfold pairL valL
              rw [if_neg (by simp)]
              simp only [hkk, hv, List.append_assoc]
              rw [t2, i3, k1, show v.length + 1 = m by omega]
          · have hm0 : m = 0 := by omega
            subst hm0
            rw [if_neg (by omega)] at h3
            injection h3 with h3 h4
            subst h3
            injection h4 with h4
            subst h4
            have hkk : (⟨t.toArray⟩ : ByteArray).size = t.length := by show t.toArray.size = _; simp
            refine ⟨(fine_iff _).2 ⟨?_, ?_, ?_, ?_⟩, ?_⟩
            · simp only [hkk]; exact hk
            · simp only [hkk]; exact hk2
            · exact Nat.zero_le _
            · intro _; rfl
            · unfold pairL valL
              rw [if_pos (by simp)]
              simp only [hkk, List.append_assoc]
              rw [t2, i3]
theorem pair_one {x y : PairS} {r q : List UInt8} (hx : wrongP x = 0) (hy : wrongP y = 0) (h : pairL x ++ r = pairL y ++ q) : x = y ∧ r = q := by
  have h1 := readP_fine hx r
  rw [h, readP_fine hy q] at h1
  injection h1 with h1 h2
  injection h2 with h2 h3
  injection h3 with h3 h4
  injection h4 with h4
  obtain ⟨xk, xv, xg⟩ := x
  obtain ⟨yk, yv, yg⟩ := y
  simp only at h1 h2 h3
  have e1 : yk = xk := ByteArray.ext (Array.toList_inj.1 h1)
  have e2 : yv = xv := ByteArray.ext (Array.toList_inj.1 h3)
  subst e1
  subst e2
  refine ⟨?_, h4.symm⟩
  cases xg <;> cases yg <;> simp_all
theorem block_split : ∀ {done xs : List PairS} {rest : List UInt8}, FineP done → FineP xs → blockL done ++ rest = blockL xs → ∃ ys, xs = done ++ ys ∧ rest = blockL ys
  | [], xs, rest, _, _, h => ⟨xs, rfl, h⟩
  | d :: ds, [], rest, _, _, h => by
    have := pairL_pos d
    have h2 := congrArg List.length h
    rw [blockL_cons] at h2
    simp [blockL] at h2
    have : pairL d = [] := h2.1
    have h3 := pairL_pos d
    rw [this] at h3; simp at h3
  | d :: ds, x :: xs, rest, hd, hx, h => by
    rw [blockL_cons, blockL_cons, List.append_assoc] at h
    obtain ⟨rfl, h2⟩ := pair_one (hd d (by simp)) (hx x (by simp)) h
    obtain ⟨ys, rfl, h4⟩ := block_split (fun y hy => hd y (by simp [hy])) (fun y hy => hx y (by simp [hy])) h2
    exact ⟨ys, rfl, h4⟩
theorem block_one {xs ys : List PairS} (hx : FineP xs) (hy : FineP ys) (h : blockL xs = blockL ys) : xs = ys := by
  obtain ⟨zs, rfl, h2⟩ := block_split (rest := []) hx hy (by rw [List.append_nil]; exact h)
  cases zs with
  | nil => simp
  | cons z zs =>
    rw [blockL_cons] at h2
    have := congrArg List.length h2
    have h3 := pairL_pos z
    rw [List.length_append] at this
    simp at this
    omega
/-- These bytes are the block of these pairs. -/
def IsBlock (s : List UInt8) (xs : List PairS) : Prop := s = blockL xs ∧ 1 ≤ xs.length ∧ xs.length ≤ 8 ∧ FineP xs
theorem IsBlock.one {s : List UInt8} {xs ys : List PairS} (h : IsBlock s xs) (k : IsBlock s ys) : xs = ys := block_one h.2.2.2 k.2.2.2 (h.1.symm.trans k.1)
theorem no_block {s rest : List UInt8} {done : List PairS} (hs : s = blockL done ++ rest) (hf : FineP done) (hr : rest ≠ []) (hn : done.length = 8 ∨ ∀ x r, wrongP x = 0 → rest ≠ pairL x ++ r) : ∀ xs, ¬ IsBlock s xs := by
  rintro xs ⟨h1, h2, h3, h4⟩
  obtain ⟨ys, rfl, h5⟩ := block_split hf h4 (hs.symm.trans h1)
  cases ys with
  | nil => exact hr h5
  | cons y ys =>
    rcases hn with hn | hn
    · simp at h3; omega
    · exact hn y (blockL ys) (h4 y (by simp)) h5
end Go.Proofs.Ytlakemcbfeogkaa

namespace Go.Proofs.Ytlakemcbfeogkaa
open Go.RowKit
set_option linter.unusedVariables false

/-- The blocks of so many pairs. -/
def partsN (n : Nat) : Nat := (n + 7) / 8
def partP (l : List PairS) (i : Nat) : List PairS := (l.drop (8 * i)).take 8
def firstAt (l : List PairS) (i : Nat) : ByteArray := (l.getD (8 * i) zeroP).key
def firstsK (l : List PairS) (n : Nat) : List ByteArray := (List.range n).map (firstAt l)
def blocksL (l : List PairS) (n : Nat) : List (List UInt8) := (List.range n).map fun i => blockL (partP l i)
def footL (l : List PairS) (flt : List UInt8) : List UInt8 := putL (partsN l.length) ++ (enct (firstsK l (partsN l.length)) ++ (putL l.length ++ (putL flt.length ++ flt)))
def tabL (l : List PairS) (flt : List UInt8) : List UInt8 := framesL (blocksL l (partsN l.length)) ++ frameL (footL l flt)

theorem partP_len (l : List PairS) (i : Nat) : (partP l i).length = min 8 (l.length - 8 * i) := by unfold partP; rw [List.length_take, List.length_drop]
theorem part_take (l : List PairS) (i : Nat) : l.take (8 * (i + 1)) = l.take (8 * i) ++ partP l i := by
  unfold partP
  rw [show 8 * (i + 1) = 8 * i + 8 by omega, List.take_add]
theorem part_mem {l : List PairS} {i : Nat} {x : PairS} (h : x ∈ partP l i) : x ∈ l := List.mem_of_mem_drop (List.mem_of_mem_take h)
theorem part_fine {l : List PairS} (h : FineP l) (i : Nat) : FineP (partP l i) := fun x hx => h x (part_mem hx)
theorem part_at {l : List PairS} {i k : Nat} (hk : k < (partP l i).length) : ∃ h : 8 * i + k < l.length, (partP l i)[k] = l[8 * i + k] := by
  have hl := partP_len l i
  refine ⟨by omega, ?_⟩
  rw [List.getElem_of_eq (show partP l i = ((l.drop (8 * i)).take 8) from rfl) hk, List.getElem_take, List.getElem_drop]
theorem part_front {a : List PairS} {j : Nat} (h : 8 * (j + 1) ≤ a.length) (b : List PairS) : partP (a ++ b) j = partP a j := by
  unfold partP
  rw [List.drop_append_of_le_length (by omega), List.take_append_of_le_length (by rw [List.length_drop]; omega)]
theorem part_back {a : List PairS} {i : Nat} (h : a.length = 8 * i) {b : List PairS} (hb : b.length ≤ 8) : partP (a ++ b) i = b := by
  unfold partP
  rw [← h, List.drop_left, List.take_of_length_le hb]
theorem first_front {a : List PairS} {j : Nat} (h : 8 * j < a.length) (b : List PairS) : firstAt (a ++ b) j = firstAt a j := by
  unfold firstAt
  simp [List.getD, List.getElem?_append_left h]
theorem first_back {a : List PairS} {i : Nat} (h : a.length = 8 * i) (x : PairS) (b : List PairS) : firstAt (a ++ x :: b) i = x.key := by
  unfold firstAt
  simp [List.getD, ← h]
theorem firstsK_next (l : List PairS) (n : Nat) : firstsK l (n + 1) = firstsK l n ++ [firstAt l n] := by simp [firstsK, List.range_succ]
theorem blocksL_next (l : List PairS) (n : Nat) : blocksL l (n + 1) = blocksL l n ++ [blockL (partP l n)] := by simp [blocksL, List.range_succ]
theorem firstsK_len (l : List PairS) (n : Nat) : (firstsK l n).length = n := by simp [firstsK]
theorem blocksL_len (l : List PairS) (n : Nat) : (blocksL l n).length = n := by simp [blocksL]
theorem firstsK_at {l : List PairS} {n i : Nat} (h : i < n) : (firstsK l n)[i]'(by rw [firstsK_len]; exact h) = firstAt l i := by simp [firstsK]
theorem blocksL_at {l : List PairS} {n i : Nat} (h : i < n) : (blocksL l n)[i]'(by rw [blocksL_len]; exact h) = blockL (partP l i) := by simp [blocksL]
theorem firstsK_front {a : List PairS} {n : Nat} (h : ∀ j, j < n → 8 * j < a.length) (b : List PairS) : firstsK (a ++ b) n = firstsK a n := by
  unfold firstsK
  refine List.map_congr_left fun j hj => first_front (h j (List.mem_range.1 hj)) b
theorem blocksL_front {a : List PairS} {n : Nat} (h : 8 * n ≤ a.length) (b : List PairS) : blocksL (a ++ b) n = blocksL a n := by
  unfold blocksL
  refine List.map_congr_left fun j hj => ?_
  have := List.mem_range.1 hj
  rw [part_front (by omega)]
theorem enct_snoc (ss : List ByteArray) (s : ByteArray) : enct (ss ++ [s]) = enct ss ++ (putL s.size ++ s.data.toList) := by simp [enct]
theorem enct_append (a b : List ByteArray) : enct (a ++ b) = enct a ++ enct b := by simp [enct]
theorem framesL_end (ls : List (List UInt8)) (l : List UInt8) : framesL (ls ++ [l]) = framesL ls ++ frameL l := by simp [framesL]

/-- What a table's bytes must keep. -/
structure TabOK (l : List PairS) (flt : List UInt8) : Prop where
  ne : l ≠ []
  rise : RisingP l
  fine : FineP l
  f1 : 1 ≤ flt.length
  f2 : flt.length ≤ 8192
  has : ∀ x ∈ l, hasK6 flt x.key = true
  foot : (footL l flt).length ≤ 1048576
/-- These bytes are a table of these pairs. -/
def IsTab (s : List UInt8) (l : List PairS) : Prop := ∃ flt, TabOK l flt ∧ s = tabL l flt

theorem fine_take {l : List PairS} (h : FineP l) (k : Nat) : FineP (l.take k) := fun x hx => h x (List.mem_of_mem_take hx)
theorem block_small {xs : List PairS} (hf : FineP xs) (h : xs.length ≤ 8) : (blockL xs).length ≤ 1048576 := by
  have h1 := blockL_len hf
  have h2 := hf.size
  omega
theorem tab_frames (l : List PairS) (flt : List UInt8) : tabL l flt = framesL (blocksL l (partsN l.length) ++ [footL l flt]) := by rw [framesL_end]; rfl
theorem tab_scan {l : List PairS} {flt : List UInt8} (h : TabOK l flt) : scanL (tabL l flt) = (blocksL l (partsN l.length) ++ [footL l flt], []) := by
  rw [tab_frames]
  have := scanL_frames (ls := blocksL l (partsN l.length) ++ [footL l flt]) (fun b hb => ?_) [] (by rw [nextL_nil]; simp)
  · rwa [List.append_nil] at this
  · rcases List.mem_append.1 hb with hb | hb
    · obtain ⟨i, hi, rfl⟩ := List.mem_map.1 hb
      exact block_small (part_fine h.fine i) (by rw [partP_len]; omega)
    · rw [List.mem_singleton.1 hb]; exact h.foot
theorem partsN_pos {l : List PairS} (h : l ≠ []) : 1 ≤ partsN l.length := by
  have := List.length_pos_iff.2 h
  unfold partsN; omega
theorem part_block {l : List PairS} (h : FineP l) {i : Nat} (hi : i < partsN l.length) : IsBlock (blockL (partP l i)) (partP l i) := by
  unfold partsN at hi
  have := partP_len l i
  exact ⟨rfl, by omega, by omega, part_fine h i⟩
theorem tab_one {s : List UInt8} {l m : List PairS} (h : IsTab s l) (k : IsTab s m) : l = m := by
  obtain ⟨f, hf, rfl⟩ := h
  obtain ⟨g, hg, e⟩ := k
  have h1 := tab_scan hf
  rw [e, tab_scan hg] at h1
  injection h1 with h1 _
  obtain ⟨h2, _⟩ := List.append_inj' h1 rfl
  have h3 := congrArg List.length h2
  rw [blocksL_len, blocksL_len] at h3
  rw [h3] at h2
  have h4 : ∀ i, i ≤ partsN l.length → l.take (8 * i) = m.take (8 * i) := by
    intro i
    induction i with
    | zero => intro _; rfl
    | succ i ih =>
      intro hi
      have e1 := blocksL_at (l := m) (n := partsN l.length) (i := i) (by omega)
      have e2 := blocksL_at (l := l) (n := partsN l.length) (i := i) (by omega)
      have e3 : blockL (partP l i) = blockL (partP m i) := by
        rw [← e1, ← e2]
        simp only [h2]
      rw [part_take, part_take, ih (by omega), block_one (part_fine hf.fine i) (part_fine hg.fine i) e3]
  have h5 := h4 _ (Nat.le_refl _)
  rw [List.take_of_length_le (by unfold partsN; omega), List.take_of_length_le (by rw [← h3]; unfold partsN; omega)] at h5
  exact h5

/-! A table, read from its beginning. -/
/-- i blocks of a table's frames were read, of nb; R is left of the footer. -/
structure ReadTo (fs : List (List UInt8)) (foot : List UInt8) (nb i : Nat) (all : List PairS) (R : List UInt8) : Prop where
  blocks : fs.take i = blocksL all i
  len : i < nb → all.length = 8 * i
  lo : 8 * i < all.length + 8
  hi : all.length ≤ 8 * i
  fine : FineP all
  foot : foot = putL nb ++ (enct (firstsK all i) ++ R)
theorem ReadTo.start {fs : List (List UInt8)} {foot : List UInt8} {nb : Nat} {R : List UInt8} (h : foot = putL nb ++ R) : ReadTo fs foot nb 0 [] R :=
  ⟨rfl, fun _ => rfl, by simp, by simp, (fun x hx => by cases hx), (by simpa [firstsK, enct] using h)⟩
theorem ReadTo.next {fs : List (List UInt8)} {foot : List UInt8} {nb i : Nat} {all xs : List PairS} {R R' : List UInt8} (h : ReadTo fs foot nb i all R) (hi : i < nb) (hn : nb ≤ fs.length)
    (hb : IsBlock (fs.getD i []) xs) (h8 : i + 1 < nb → xs.length = 8) (ht : R = putL (xs.headD zeroP).key.size ++ ((xs.headD zeroP).key.data.toList ++ R')) : ReadTo fs foot nb (i + 1) (all ++ xs) R' := by
  have hlen := h.len hi
  obtain ⟨b1, b2, b3, b4⟩ := hb
  refine ⟨?_, fun hlt => ?_, ?_, ?_, fun x hx => ?_, ?_⟩
  · have hlf : i < fs.length := by omega
    rw [List.take_succ_eq_append_getElem hlf, blocksL_next, h.blocks, blocksL_front (by omega), part_back hlen b3]
    congr 2
    rw [← b1]
    simp [List.getD, hlf]
  · rw [List.length_append, hlen, h8 hlt]; omega
  · rw [List.length_append]; omega
  · rw [List.length_append]; omega
  · rcases List.mem_append.1 hx with hx | hx
    · exact h.fine x hx
    · exact b4 x hx
  · cases xs with
    | nil => simp at b2
    | cons x xs =>
      simp only [List.headD_cons] at ht
      rw [h.foot, ht, firstsK_next, firstsK_front (fun j hj => by omega), first_back hlen, enct_snoc]
      simp only [List.append_assoc]
theorem ReadTo.tab {fs : List (List UInt8)} {foot : List UInt8} {nb : Nat} {all : List PairS} {flt s : List UInt8} (hs : scanL s = (fs, [])) (hl : fs.length = nb + 1) (hnb : 1 ≤ nb) (hf : fs.getD nb [] = foot) (h : ReadTo fs foot nb nb all (putL all.length ++ (putL flt.length ++ flt)))
    (hr : RisingP all) (f1 : 1 ≤ flt.length) (f2 : flt.length ≤ 8192) (hh : ∀ x ∈ all, hasK6 flt x.key = true) : IsTab s all := by
  obtain ⟨h1, h2⟩ := scanL_inv fs s [] hs
  have hn : partsN all.length = nb := by have := h.lo; have := h.hi; unfold partsN; omega
  have hfoot : footL all flt = foot := by rw [h.foot]; unfold footL; rw [hn]
  have hne : all ≠ [] := fun e => by have := h.lo; rw [e] at this; simp at this; omega
  have hfs : fs = blocksL all (partsN all.length) ++ [footL all flt] := by
    have e1 : fs = fs.take nb ++ fs.drop nb := (List.take_append_drop _ _).symm
    rw [e1, h.blocks, hn, hfoot, ← hf]
    congr 1
    rw [List.drop_eq_getElem_cons (by omega), List.drop_eq_nil_of_le (by omega)]
    simp [List.getD, show nb < fs.length by omega]
  refine ⟨flt, ⟨hne, hr, h.fine, f1, f2, hh, ?_⟩, ?_⟩
  · rw [hfoot]
    refine h2 foot ?_
    rw [hfs, hfoot]; simp
  · rw [h1, List.append_nil, tab_frames, ← hfs]

/-! Building. -/
/-- The error of pairs behind a key. -/
def badB (last : ByteArray) : List PairS → Nat
  | [] => 0
  | x :: r => if befB last x.key = false ∨ (x.gone = true ∧ x.val.size ≠ 0) then 1 else if 64 < x.key.size ∨ 8192 < x.val.size then 2 else badB x.key r
def filtL (l : List PairS) : List UInt8 := makeL (l.map PairS.key) (min (l.length + 8) 8192)
def buildE (l : List PairS) : Nat := if l = [] then 1 else if badB ⟨#[]⟩ l ≠ 0 then badB ⟨#[]⟩ l else if 1048576 < (footL l (filtL l)).length then 2 else 0
def buildS (l : List PairS) : ByteArray := if buildE l = 0 then ⟨(tabL l (filtL l)).toArray⟩ else ⟨#[]⟩
theorem bef_size {k x : ByteArray} (h : befB k x = true) : 1 ≤ x.size := by
  have h1 := (befB_lt k x).1 h
  have e : x.data.toList.length = x.size := by simp
  cases hx : x.data.toList with
  | nil => rw [hx] at h1; exact absurd h1 (by simp)
  | cons a r => rw [hx] at e; simp at e; omega
theorem badB_zero : ∀ (last : ByteArray) (l : List PairS), badB last l = 0 ↔ (∀ x ∈ l.head?, befB last x.key = true) ∧ RisingP l ∧ FineP l
  | last, [] => by simp [badB, RisingP, FineP]
  | last, x :: r => by
    have ih := badB_zero x.key r
    unfold badB
    split
    · rename_i h
      constructor
      · intro e; cases e
      · rintro ⟨h1, h2, h3⟩
        have h4 := h1 x (by simp)
        have h5 := (fine_iff x).1 (h3 x (by simp))
        rcases h with h | ⟨h, h6⟩
        · rw [h] at h4; cases h4
        · exact absurd (h5.2.2.2 h) h6
    · rename_i h
      simp only [not_or, not_and, Bool.not_eq_false] at h
      split
      · rename_i h2
        constructor
        · intro e; cases e
        · rintro ⟨_, _, h3⟩
          have h5 := (fine_iff x).1 (h3 x (by simp))
          omega
      · rename_i h2
        rw [ih]
        constructor
        · rintro ⟨h3, h4, h5⟩
          have hx : wrongP x = 0 := (fine_iff x).2 ⟨bef_size h.1, by omega, by omega, fun hg => by have := h.2 hg; omega⟩
          refine ⟨fun y hy => ?_, ?_, fun y hy => ?_⟩
          · simp at hy; subst hy; exact h.1
          · refine List.pairwise_cons.2 ⟨fun y hy => ?_, h4⟩
            cases r with
            | nil => cases hy
            | cons z r =>
              have hz := h3 z (by simp)
              rcases List.mem_cons.1 hy with rfl | hy
              · exact hz
              · exact befB_trans hz ((List.pairwise_cons.1 h4).1 y hy)
          · rcases List.mem_cons.1 hy with rfl | hy
            · exact hx
            · exact h5 y hy
        · rintro ⟨_, h4, h5⟩
          have h6 := List.pairwise_cons.1 h4
          exact ⟨fun y hy => h6.1 y (List.mem_of_mem_head? hy), h6.2, fun y hy => h5 y (by simp [hy])⟩
theorem bad_zero (l : List PairS) : badB ⟨#[]⟩ l = 0 ↔ RisingP l ∧ FineP l := by
  rw [badB_zero]
  constructor
  · rintro ⟨_, h⟩; exact h
  · rintro ⟨h1, h2⟩
    refine ⟨fun x hx => ?_, h1, h2⟩
    have h3 := (fine_iff x).1 (h2 x (List.mem_of_mem_head? hx))
    rw [befB_lt]
    have e : x.key.data.toList.length = x.key.size := by simp
    cases hk : x.key.data.toList with
    | nil => rw [hk] at e; simp at e; omega
    | cons a r => simp
theorem build_tab {l : List PairS} (h : buildE l = 0) : IsTab (buildS l).data.toList l := by
  unfold buildS
  rw [if_pos h]
  unfold buildE at h
  split at h
  · cases h
  · rename_i hne
    split at h
    · rename_i h2; exact absurd h h2
    · rename_i h2
      split at h
      · cases h
      · rename_i h3
        have h2 : badB ⟨#[]⟩ l = 0 := by omega
        obtain ⟨h4, h5⟩ := (bad_zero l).1 h2
        have hlen : (filtL l).length = min (l.length + 8) 8192 := by unfold filtL; rw [makeL_len]
        refine ⟨filtL l, ⟨hne, h4, h5, by omega, by omega, fun x hx => ?_, by omega⟩, by simp⟩
        exact makeL_mem (List.mem_map_of_mem hx) (by omega) (by omega)
end Go.Proofs.Ytlakemcbfeogkaa

namespace Go.Proofs.Ytlakemcbfeogkaa
open Go.RowKit
set_option linter.unusedVariables false

/-- The last key of some pairs. -/
def lastAt (l : List PairS) (i : Nat) : ByteArray := if i = 0 then ⟨#[]⟩ else (l.getD (i - 1) zeroP).key
theorem lastAt_zero (l : List PairS) : lastAt l 0 = ⟨#[]⟩ := rfl
theorem lastAt_next {l : List PairS} {i : Nat} (h : i < l.length) : lastAt l (i + 1) = l[i].key := by
  unfold lastAt
  rw [if_neg (by omega)]
  simp [List.getD, h]
/-- The error of the pairs from the i-th on. -/
def badAt (l : List PairS) (i : Nat) : Nat := badB (lastAt l i) (l.drop i)
theorem badAt_zero (l : List PairS) : badAt l 0 = badB ⟨#[]⟩ l := rfl
theorem badAt_all (l : List PairS) : badAt l l.length = 0 := by unfold badAt; rw [List.drop_length]; rfl
theorem badAt_cons {l : List PairS} {i : Nat} (h : i < l.length) : badAt l i =
    if befB (lastAt l i) l[i].key = false ∨ (l[i].gone = true ∧ l[i].val.size ≠ 0) then 1 else if 64 < l[i].key.size ∨ 8192 < l[i].val.size then 2 else badAt l (i + 1) := by
  unfold badAt
  rw [lastAt_next h, List.drop_eq_getElem_cons h]
  rfl

/-! The bytes, pair by pair. -/
/-- How many blocks are whole behind so many pairs of so many. -/
def doneN (n i : Nat) : Nat := if i = n then partsN n else i / 8
/-- The block under way. -/
def openB (l : List PairS) (i : Nat) : List PairS := (l.take i).drop (8 * doneN l.length i)
theorem openB_zero (l : List PairS) : openB l 0 = [] := by simp [openB]
theorem openB_all (l : List PairS) : openB l l.length = [] := by
  unfold openB doneN partsN
  rw [if_pos rfl]
  exact List.drop_eq_nil_of_le (by rw [List.length_take]; omega)
theorem doneN_zero {n : Nat} (h : 0 < n) : doneN n 0 = 0 := by unfold doneN; rw [if_neg (by omega)]
theorem doneN_all (n : Nat) : doneN n n = partsN n := by unfold doneN; rw [if_pos rfl]
/-- The block under way, with one pair more. -/
theorem openB_more {l : List PairS} {i : Nat} (h : i < l.length) : openB l i ++ [l[i]] = (l.take (i + 1)).drop (8 * (i / 8)) := by
  unfold openB doneN
  rw [if_neg (by omega), List.take_succ_eq_append_getElem h, List.drop_append_of_le_length (by rw [List.length_take]; omega)]
/-- Does a block end with the i-th pair? -/
def endsB (n i : Nat) : Prop := i % 8 = 7 ∨ i + 1 = n
theorem openB_len (l : List PairS) (i : Nat) (h : i < l.length) : (openB l i).length = i % 8 := by
  unfold openB doneN
  rw [if_neg (by omega), List.length_drop, List.length_take]
  omega
theorem openB_ends {l : List PairS} {i : Nat} (h : i < l.length) (he : i % 8 = 7 ∨ i + 1 = l.length) : openB l i ++ [l[i]] = partP l (i / 8) ∧ doneN l.length (i + 1) = i / 8 + 1 ∧ doneN l.length i = i / 8 ∧ openB l (i + 1) = [] := by
  have e1 : doneN l.length (i + 1) = i / 8 + 1 := by
    unfold doneN partsN
    split <;> omega
  refine ⟨?_, e1, by unfold doneN; rw [if_neg (by omega)], ?_⟩
  · rw [openB_more h]
    unfold partP
    rcases he with he | he
    · rw [show i + 1 = 8 * (i / 8) + 8 by omega, List.take_add, List.drop_append_of_le_length (by rw [List.length_take]; omega), List.drop_of_length_le (by rw [List.length_take]; omega), List.nil_append]
    · rw [he, List.take_length, List.take_of_length_le (by rw [List.length_drop]; omega)]
  · unfold openB
    rw [e1]
    exact List.drop_eq_nil_of_le (by rw [List.length_take]; omega)
theorem openB_goes {l : List PairS} {i : Nat} (h : i < l.length) (h7 : ¬ i % 8 = 7) (hn : ¬ i + 1 = l.length) : openB l (i + 1) = openB l i ++ [l[i]] ∧ doneN l.length (i + 1) = doneN l.length i := by
  have e1 : doneN l.length (i + 1) = i / 8 := by unfold doneN; rw [if_neg hn]; omega
  refine ⟨?_, by rw [e1]; unfold doneN; rw [if_neg (by omega)]⟩
  rw [openB_more h]
  unfold openB
  rw [e1]
theorem partsN_first {i : Nat} (h : i % 8 = 0) : partsN (i + 1) = partsN i + 1 ∧ 8 * partsN i = i := by unfold partsN; omega
theorem partsN_same {i : Nat} (h : ¬ i % 8 = 0) : partsN (i + 1) = partsN i := by unfold partsN; omega
theorem firstAt_is {l : List PairS} {i : Nat} (h : i < l.length) (h0 : i % 8 = 0) : firstAt l (partsN i) = l[i].key := by
  unfold firstAt
  rw [(partsN_first h0).2]
  simp [List.getD, h]
theorem firsts_next {l : List PairS} {i : Nat} (h : i < l.length) (h0 : i % 8 = 0) : enct (firstsK l (partsN (i + 1))) = enct (firstsK l (partsN i)) ++ (putL l[i].key.size ++ l[i].key.data.toList) := by
  rw [(partsN_first h0).1, firstsK_next, firstAt_is h h0, enct_snoc]
theorem frames_next {l : List PairS} (k : Nat) : framesL (blocksL l (k + 1)) = framesL (blocksL l k) ++ frameL (blockL (partP l k)) := by
  rw [blocksL_next, framesL_end]

/-! How long they are. -/
theorem firstAt_size {l : List PairS} (h : FineP l) (i : Nat) : (firstAt l i).size ≤ 64 := by
  unfold firstAt
  by_cases hl : 8 * i < l.length
  · have e : l.getD (8 * i) zeroP = l[8 * i] := by simp [List.getD, hl]
    rw [e]
    exact ((fine_iff _).1 (h _ (List.getElem_mem _))).2.1
  · have e : l.getD (8 * i) zeroP = zeroP := by simp [List.getD, Nat.le_of_not_lt hl]
    rw [e]
    exact Nat.zero_le _
theorem firsts_len {l : List PairS} (h : FineP l) : ∀ k, (enct (firstsK l k)).length ≤ 80 * k
  | 0 => by simp [firstsK, enct]
  | k + 1 => by
    have h1 := firsts_len h k
    have h2 := firstAt_size h k
    have h3 := putL_len10 (small8 (n := (firstAt l k).size) (by omega))
    rw [firstsK_next, enct_snoc, List.length_append, List.length_append]
    have : (firstAt l k).data.toList.length = (firstAt l k).size := by simp
    omega
theorem block8_len {xs : List PairS} (h : FineP xs) (h8 : xs.length ≤ 8) : (blockL xs).length ≤ 70000 := by
  have h1 := blockL_len h
  have h2 := h.size
  omega
theorem frames_len {l : List PairS} (h : FineP l) : ∀ k, (framesL (blocksL l k)).length ≤ 70100 * k
  | 0 => by simp [framesL, blocksL]
  | k + 1 => by
    have h1 := frames_len h k
    have h0 := block8_len (part_fine h k) (by rw [partP_len]; omega)
    have h3 := frameL_le (l := blockL (partP l k)) (by omega)
    rw [frames_next, List.length_append]
    omega
theorem openB_fine {l : List PairS} (h : FineP l) (i : Nat) : FineP (openB l i) := fun x hx => h x (List.mem_of_mem_take (List.mem_of_mem_drop hx))
end Go.Proofs.Ytlakemcbfeogkaa

namespace Go.Proofs.Ytlakemcbfeogkaa
open Go.RowKit
set_option linter.unusedVariables false

/-- The frames of a table. -/
theorem tab_known {s : List UInt8} {l : List PairS} {fs : List (List UInt8)} {rest : List UInt8} (ht : IsTab s l) (hs : scanL s = (fs, rest)) : rest = [] ∧ fs.length = partsN l.length + 1 ∧ 1 ≤ partsN l.length ∧ ∃ flt, TabOK l flt ∧ fs = blocksL l (partsN l.length) ++ [footL l flt] := by
  obtain ⟨flt, hok, rfl⟩ := ht
  rw [tab_scan hok] at hs
  injection hs with h1 h2
  subst h1
  refine ⟨h2.symm, by rw [List.length_append, blocksL_len]; rfl, partsN_pos hok.ne, flt, hok, rfl⟩

/-- The frames' number is no greater than the bytes'. -/
theorem frames_few : ∀ (fs : List (List UInt8)), 5 * fs.length ≤ (framesL fs).length
  | [] => by simp
  | a :: fs => by
    have h1 := frames_few fs
    have h2 := frameL_len a
    have h3 := putL_pos a.length
    rw [framesL_cons, List.length_append, List.length_cons]
    omega
theorem scan_few {s rest : List UInt8} {fs : List (List UInt8)} (h : scanL s = (fs, rest)) : 5 * fs.length ≤ s.length := by
  obtain ⟨h1, _⟩ := scanL_inv fs s rest h
  have h2 := frames_few fs
  rw [h1, List.length_append]; omega

/-- What the reader of a footer has left, i blocks being read. -/
def leftK (l : List PairS) (flt : List UInt8) (i : Nat) : List UInt8 := enct ((firstsK l (partsN l.length)).drop i) ++ (putL l.length ++ (putL flt.length ++ flt))
theorem leftK_next {l : List PairS} (flt : List UInt8) {i : Nat} (hi : i < partsN l.length) : leftK l flt i = putL (firstAt l i).size ++ ((firstAt l i).data.toList ++ leftK l flt (i + 1)) := by
  unfold leftK
  rw [enct_drop (ss := firstsK l (partsN l.length)) (k := i) (by rw [firstsK_len]; exact hi), firstsK_at hi]
  simp only [List.append_assoc]
theorem leftK_all (l : List PairS) (flt : List UInt8) : leftK l flt (partsN l.length) = putL l.length ++ (putL flt.length ++ flt) := by
  unfold leftK
  rw [List.drop_eq_nil_of_le (by rw [firstsK_len]; exact Nat.le_refl _)]
  rfl
theorem first_take (l : List PairS) {i j : Nat} (h : j < i) : firstAt (l.take (8 * i)) j = firstAt l j := by
  unfold firstAt
  congr 1
  simp [List.getD, List.getElem?_take, show 8 * j < 8 * i by omega]

theorem ReadTo.known {s : List UInt8} {l : List PairS} {fs : List (List UInt8)} {rest foot R : List UInt8} {nb i : Nat} {all : List PairS} (ht : IsTab s l) (hs : scanL s = (fs, rest)) (hl : fs.length = nb + 1) (hf : fs.getD nb [] = foot)
    (h : ReadTo fs foot nb i all R) (hi : i ≤ nb) : nb = partsN l.length ∧ all = l.take (8 * i) ∧ (i < nb → fs.getD i [] = blockL (partP l i)) ∧ ∃ flt, TabOK l flt ∧ R = leftK l flt i := by
  obtain ⟨_, h1, _, flt, hok, rfl⟩ := tab_known ht hs
  have hnb : nb = partsN l.length := by omega
  have hfoot : footL l flt = foot := by
    rw [← hf, hnb]
    simp [List.getD, List.getElem?_append_right, blocksL_len]
  have hb : blocksL l i = blocksL all i := by
    rw [← h.blocks, List.take_append_of_le_length (by rw [blocksL_len]; omega)]
    unfold blocksL
    rw [← List.map_take, List.take_range]
    congr 2
    omega
  have hall : all = l.take (8 * i) := by
    have h4 : ∀ j, j ≤ i → all.take (8 * j) = l.take (8 * j) := by
      intro j
      induction j with
      | zero => intro _; rfl
      | succ j ih =>
        intro hj
        have e1 := blocksL_at (l := all) (n := i) (i := j) (by omega)
        have e2 := blocksL_at (l := l) (n := i) (i := j) (by omega)
        have e3 : blockL (partP all j) = blockL (partP l j) := by
          rw [← e1, ← e2]
          simp only [hb]
        rw [part_take, part_take, ih (by omega), block_one (part_fine h.fine j) (part_fine hok.fine j) e3]
    have h5 := h4 i (Nat.le_refl _)
    rwa [List.take_of_length_le h.hi] at h5
  refine ⟨hnb, hall, fun hlt => ?_, flt, hok, ?_⟩
  · have e : (blocksL l (partsN l.length) ++ [footL l flt]).getD i [] = (blocksL l (partsN l.length))[i]'(by rw [blocksL_len]; omega) := by
      simp [List.getD, List.getElem?_append_left, blocksL_len, show i < partsN l.length by omega]
    rw [e, blocksL_at (by omega)]
  · have e1 := h.foot
    rw [← hfoot] at e1
    unfold footL at e1
    rw [hnb] at e1
    have e2 := List.append_cancel_left e1
    have e3 : firstsK all i = (firstsK l (partsN l.length)).take i := by
      rw [hall]
      unfold firstsK
      rw [← List.map_take, List.take_range, show min i (partsN l.length) = i by omega]
      refine List.map_congr_left fun j hj => first_take l (List.mem_range.1 hj)
    have e4 : enct (firstsK l (partsN l.length)) = enct (firstsK all i) ++ enct ((firstsK l (partsN l.length)).drop i) := by
      rw [e3, ← enct_append, List.take_append_drop]
    rw [e4, List.append_assoc] at e2
    exact (List.append_cancel_left e2).symm

theorem enct_few : ∀ (ss : List ByteArray), ss.length ≤ (enct ss).length
  | [] => by simp
  | s :: ss => by
    have h1 := enct_few ss
    have h2 := putL_pos s.size
    rw [enct_cons, List.length_append, List.length_append, List.length_cons]
    omega
theorem tab_few {l : List PairS} {flt : List UInt8} (h : TabOK l flt) : l.length ≤ 8388608 := by
  have h1 := h.foot
  have h2 := enct_few (firstsK l (partsN l.length))
  rw [firstsK_len] at h2
  unfold footL at h1
  simp only [List.length_append] at h1
  have h3 : partsN l.length ≤ 1048576 := by omega
  unfold partsN at h3
  omega

section
variable {s : List UInt8} {fs : List (List UInt8)} {rest foot R : List UInt8} {nb i : Nat} {all : List PairS}
/-- Frames that are none of a table. -/
theorem no_rest (hs : scanL s = (fs, rest)) (h : rest ≠ [] ∨ fs.length < 2) : ∀ l, ¬ IsTab s l := fun l ht => by
  obtain ⟨h1, h2, h3, _⟩ := tab_known ht hs
  rcases h with h | h
  · exact h h1
  · omega
theorem no_count (hs : scanL s = (fs, rest)) (hl : fs.length = nb + 1) (hf : fs.getD nb [] = foot) {m : Nat} (hm : s.length = m) (hm2 : m ≤ 140737488355328) {n : Nat} (h : (intS (m : Int) (some foot)).1 = n) (hn : n ≠ nb) : ∀ l, ¬ IsTab s l := fun l ht => by
  obtain ⟨_, h2, h3, flt, hok, rfl⟩ := tab_known ht hs
  have hnb : nb = partsN l.length := by omega
  have hfoot : footL l flt = foot := by
    rw [← hf, hnb]
    simp [List.getD, List.getElem?_append_right, blocksL_len]
  have hfew := scan_few hs
  have h4 := hok.foot
  have h5 : (footL l flt).length ≤ s.length := by
    obtain ⟨g1, _⟩ := scanL_inv _ s rest hs
    rw [g1, framesL_end]
    have := frameL_len (footL l flt)
    simp only [List.length_append]
    omega
  have e : intS (m : Int) (some foot) = (partsN l.length, some (enct (firstsK l (partsN l.length)) ++ (putL l.length ++ (putL flt.length ++ flt)))) := by
    rw [← hfoot]
    unfold footL
    exact int_read (by omega) (small8 (by omega)) _
  rw [e] at h
  exact hn (by rw [hnb]; exact h.symm)
variable (hs : scanL s = (fs, rest)) (hl : fs.length = nb + 1) (hf : fs.getD nb [] = foot) (h : ReadTo fs foot nb i all R)
include hs hl hf h
/-- A block that is none. -/
theorem no_tab_block (hi : i < nb) (hn : ∀ xs, ¬ IsBlock (fs.getD i []) xs) : ∀ l, ¬ IsTab s l := fun l ht => by
  obtain ⟨h1, h2, h3, flt, hok, h4⟩ := ReadTo.known ht hs hl hf h (by omega)
  rw [h3 hi] at hn
  exact hn _ (part_block hok.fine (by omega))
/-- What is known at a block. -/
theorem tab_at {l : List PairS} (ht : IsTab s l) (hi : i < nb) {xs : List PairS} (hb : IsBlock (fs.getD i []) xs) : xs = partP l i ∧ (xs.headD zeroP).key = firstAt l i ∧ (i + 1 < nb → xs.length = 8) ∧ all ++ xs = l.take (8 * (i + 1)) ∧ RisingP (all ++ xs) ∧ ∃ R', textS (some R) = ((firstAt l i).data.toList, some R') := by
  obtain ⟨h1, h2, h3, flt, hok, h4⟩ := ReadTo.known ht hs hl hf h (by omega)
  have e3 := h3 hi
  rw [e3] at hb
  have e1 := hb.one (part_block hok.fine (i := i) (by omega))
  subst e1
  have hlen := partP_len l i
  have hsz : (firstAt l i).size ≤ 64 := firstAt_size hok.fine i
  refine ⟨rfl, ?_, fun hlt => ?_, ?_, ?_, leftK l flt (i + 1), ?_⟩
  · unfold firstAt partP
    have : 8 * i < l.length := by unfold partsN at h1; omega
    have e : (l.drop (8 * i)).take 8 = l[8 * i] :: ((l.drop (8 * i + 1)).take 7) := by rw [List.drop_eq_getElem_cons this]; rfl
    rw [e]
    simp [List.getD, this]
  · unfold partsN at h1; omega
  · rw [h2, part_take]
  · rw [h2, ← part_take]
    exact hok.rise.sublist (List.take_sublist _ _)
  · rw [h4, leftK_next flt (by omega)]
    exact textS_put (small8 (by omega)) _
theorem no_first (hi : i < nb) {xs : List PairS} (hb : IsBlock (fs.getD i []) xs) {k : List UInt8} {R1 : Option (List UInt8)} (hk : textS (some R) = (k, R1)) (hn : R1 = none ∨ (xs.headD zeroP).key.data.toList ≠ k ∨ (i + 1 < nb ∧ xs.length ≠ 8)) : ∀ l, ¬ IsTab s l := fun l ht => by
  obtain ⟨h1, h2, h3, h4, h5, R', h6⟩ := tab_at hs hl hf h ht hi hb
  rw [h6] at hk
  injection hk with hk1 hk2
  rcases hn with hn | hn | ⟨hn, hn2⟩
  · rw [hn] at hk2; cases hk2
  · exact hn (by rw [h2, hk1])
  · exact hn2 (h3 hn)
theorem no_rise (hi : i < nb) {xs : List PairS} (hb : IsBlock (fs.getD i []) xs) (hn : ¬ RisingP (all ++ xs)) : ∀ l, ¬ IsTab s l := fun l ht => by
  obtain ⟨h1, h2, h3, h4, h5, R', h6⟩ := tab_at hs hl hf h ht hi hb
  exact hn h5
/-- What is known at the footer's end. -/
theorem tab_end {l : List PairS} (ht : IsTab s l) (hi : i = nb) : all = l ∧ ∃ flt, TabOK l flt ∧ R = putL l.length ++ (putL flt.length ++ flt) := by
  obtain ⟨h1, h2, h3, flt, hok, h4⟩ := ReadTo.known ht hs hl hf h (by omega)
  refine ⟨?_, flt, hok, ?_⟩
  · rw [h2, List.take_of_length_le (by unfold partsN at h1; omega)]
  · rw [h4, hi, h1, leftK_all]
theorem no_end (hi : i = nb) {m : Int} {c : Nat} {R1 R2 : Option (List UInt8)} {f : List UInt8} (h1 : intS m (some R) = (c, R1)) (h2 : textS R1 = (f, R2)) (hm : 8388608 ≤ m)
    (hn : R2 ≠ some [] ∨ c ≠ all.length ∨ f.length < 1 ∨ 8192 < f.length ∨ ∃ x ∈ all, hasK6 f x.key = false) : ∀ l, ¬ IsTab s l := fun l ht => by
  obtain ⟨rfl, flt, hok, hR⟩ := tab_end hs hl hf h ht hi
  have hm2 := tab_few hok
  obtain ⟨m', rfl⟩ : ∃ m' : Nat, m = (m' : Int) := ⟨m.toNat, by omega⟩
  rw [hR, int_read (by omega) (small8 (by omega))] at h1
  injection h1 with e1 e2
  subst e2
  have hf1 := hok.f1
  have hf2 := hok.f2
  have e3 := text_read (t := flt) (small8 (by omega)) []
  rw [List.append_nil] at e3
  rw [e3] at h2
  injection h2 with e4 e5
  subst e4
  rcases hn with hn | hn | hn | hn | ⟨x, hx, hn⟩
  · exact hn e5.symm
  · exact hn e1.symm
  · omega
  · omega
  · rw [hok.has x hx] at hn; cases hn
end

/-- A whole footer: what stands there. -/
theorem end_inv {m : Int} {R : List UInt8} {c : Nat} {R1 : Option (List UInt8)} {f : List UInt8} (h1 : intS m (some R) = (c, R1)) (h2 : textS R1 = (f, some [])) : R = putL c ++ (putL f.length ++ f) := by
  cases R1 with
  | none => rw [text_none] at h2; injection h2 with _ h2; cases h2
  | some r =>
    obtain ⟨_, _, h3⟩ := int_inv h1
    obtain ⟨_, h4⟩ := text_inv h2
    rw [h3, h4, List.append_nil]
theorem rising_snoc {l : List PairS} {x : PairS} (h : RisingP l) (hx : befB (lastAt l l.length) x.key = true) (hf : FineP l) : RisingP (l ++ [x]) := by
  unfold RisingP
  rw [List.pairwise_append]
  refine ⟨h, List.pairwise_singleton _ _, fun a ha b hb => ?_⟩
  rw [List.mem_singleton.1 hb]
  obtain ⟨i, hi, rfl⟩ := List.mem_iff_getElem.1 ha
  have hl : lastAt l l.length = l[l.length - 1].key := by
    unfold lastAt
    rw [if_neg (by omega)]
    simp [List.getD, show l.length - 1 < l.length by omega]
  rw [hl] at hx
  by_cases e : i = l.length - 1
  · subst e; exact hx
  · exact befB_trans (List.pairwise_iff_getElem.1 h i (l.length - 1) hi (by omega) (by omega)) hx
theorem rising_last {l : List PairS} {x : PairS} (h : RisingP (l ++ [x])) (hk : 1 ≤ x.key.size) : befB (lastAt l l.length) x.key = true := by
  unfold lastAt
  split
  · rename_i h0
    rw [befB_lt]
    have e : x.key.data.toList.length = x.key.size := by simp
    cases hk2 : x.key.data.toList with
    | nil => rw [hk2] at e; simp at e; omega
    | cons a r => simp
  · have hlt : l.length - 1 < l.length := by omega
    have e : l.getD (l.length - 1) zeroP = l[l.length - 1] := by simp [List.getD, hlt]
    rw [e]
    exact (List.pairwise_append.1 h).2.2 _ (List.getElem_mem _) x (by simp)
theorem rising_front {a b : List PairS} (h : RisingP (a ++ b)) : RisingP a := (List.pairwise_append.1 h).1
end Go.Proofs.Ytlakemcbfeogkaa

namespace Go.Proofs.Ytlakemcbfeogkaa
open Go.RowKit
set_option linter.unusedVariables false

theorem tx_size (l : List UInt8) : (⟨l.toArray⟩ : ByteArray).size = l.length := by show l.toArray.size = _; simp
theorem tx_app (a b : List UInt8) : (⟨a.toArray⟩ : ByteArray) ++ ⟨b.toArray⟩ = ⟨(a ++ b).toArray⟩ := by rw [text_form]
theorem pair_gone {k v : ByteArray} : pairL ⟨k, v, true⟩ = (putL k.size ++ k.data.toList) ++ putL 0 := by unfold pairL valL; simp
theorem pair_there {k v : ByteArray} : pairL ⟨k, v, false⟩ = ((putL k.size ++ k.data.toList) ++ putL (v.size + 1)) ++ v.data.toList := by unfold pairL valL; simp
theorem tx_val (v : ByteArray) : v = ⟨v.data.toList.toArray⟩ := ba_eq.symm

set_option maxHeartbeats 1000000 in
set_option maxRecDepth 100000 in
theorem rpair_any {x : PairS} (hx : wrongP x = 0) (w : World) :
    Calls Try.prog 30 #[x.val'] w fun e w' => e = .returned (.string ⟨(pairL x).toArray⟩) ∧ Below w.heap.size w w' := by
  obtain ⟨k1, k2, v1, _⟩ := (fine_iff x).1 hx
  obtain ⟨k, v, g⟩ := x
  simp only at k1 k2 v1
  clear hx
  have hnew := heap_alloc_new w (.cells #[.string k, .string v, .bool g] 39)
  have hbl : Below w.heap.size w (w.alloc (.cells #[.string k, .string v, .bool g] 39)) := (Below.refl _ w).alloc (Nat.le_refl _) _
  have c0 : (w.alloc (.cells #[.string k, .string v, .bool g] 39)).cell? ⟨w.heap.size, 0, none⟩ = some (.string k) := by rw [block_cell hnew]; rfl
  have c1 : (w.alloc (.cells #[.string k, .string v, .bool g] 39)).cell? ⟨w.heap.size, 1, none⟩ = some (.string v) := by rw [block_cell hnew]; rfl
  have c2 : (w.alloc (.cells #[.string k, .string v, .bool g] 39)).cell? ⟨w.heap.size, 2, none⟩ = some (.bool g) := by rw [block_cell hnew]; rfl
  have hsz : (w.alloc (.cells #[.string k, .string v, .bool g] 39)).heap.size = w.heap.size + 1 := by simp
  have hl1 := putL_len10 (small8 (n := k.size) (by omega))
  have hl2 := putL_len10 (small8 (n := v.size + 1) (by omega))
  have hl3 := putL_len10 (small8 (n := 0) (by omega))
  have hkl : k.data.toList.length = k.size := by simp
  have hT := fun w => rtext_any k (by omega) w
  have hI := fun w => rint_any (v.size + 1) (by omega) w
  have hI0 := fun w => rint_any 0 (by omega) w
  obtain ⟨T, eT⟩ : ∃ T : ByteArray, (⟨(putL k.size ++ k.data.toList).toArray⟩ : ByteArray) = T := ⟨_, rfl⟩
  obtain ⟨I, eI⟩ : ∃ I : ByteArray, (⟨(putL (v.size + 1)).toArray⟩ : ByteArray) = I := ⟨_, rfl⟩
  obtain ⟨I0, eI0⟩ : ∃ I : ByteArray, (⟨(putL 0).toArray⟩ : ByteArray) = I := ⟨_, rfl⟩
  have zT : T.size ≤ 74 := by rw [← eT, tx_size, List.length_append]; omega
  have zI : I.size ≤ 10 := by rw [← eI, tx_size]; exact hl2
  have zI0 : I0.size ≤ 10 := by rw [← eI0, tx_size]; exact hl3
  have HX : Hid ((⟨(pairL ⟨k, v, true⟩).toArray⟩ : ByteArray) = T ++ I0 ∧ (⟨(pairL ⟨k, v, false⟩).toArray⟩ : ByteArray) = T ++ I ++ v) := by
    constructor
    · rw [pair_gone, ← eT, ← eI0, tx_app]
    · rw [pair_there, ← eT, ← eI, tx_app]
      conv => rhs; rw [tx_val v]
      rw [tx_app]
  simp only [eT] at hT
  simp only [eI] at hI
  simp only [eI0] at hI0
  have n1 : ¬ 9223372036854775807 < T.size + I0.size := by omega
  have n2 : ¬ 9223372036854775807 < T.size + I.size := by omega
  have n3 : ¬ 9223372036854775807 < T.size + I.size + v.size := by omega
  have n4 : IntKind.i64.wrap ((v.size : Int) + 1) = ((v.size + 1 : Nat) : Int) := by rw [IntKind.wrap_i64]; omega
  clear eT eI eI0 hl1 hl2 hl3 hkl hnew
  have HB := Lib.hid hbl
  clear hbl
  show Calls Try.prog 30 #[.agg #[.string k, .string v, .bool g]] w _
  cases g with
  | true =>
    rw [HX.out.1]
    go_enter Try.func30, Try.ntmps30
    go_wp2_with fail
    refine (hT _).mono ?_
    rintro e w1 ⟨rfl, b1⟩
    go_wp2_with fail
    refine (hI0 _).mono ?_
    rintro e w2 ⟨rfl, b2⟩
    have HB2 := Lib.hid (below_next (below_next HB.out (Nat.le_refl _) b1) (Nat.le_refl _) b2)
    clear b1 b2
    go_wp2
    go_ret
    exact ⟨rfl, HB2.out⟩
  | false =>
    rw [HX.out.2]
    go_enter Try.func30, Try.ntmps30
    go_upto_region 3 with (fail)
    generalize w.alloc (.cells #[.string k, .string v, .bool false] 39) = wl at *
    have SB : Hid (∀ w', Below wl.heap.size wl w' → w'.cell? ⟨w.heap.size, 0, none⟩ = some (.string k) ∧ w'.cell? ⟨w.heap.size, 1, none⟩ = some (.string v)) := fun w' t =>
      ⟨(t.cell (World.block_lt_of_cell? wl ⟨w.heap.size, 0, none⟩ c0)).trans c0, (t.cell (World.block_lt_of_cell? wl ⟨w.heap.size, 1, none⟩ c1)).trans c1⟩
    go_region_held3 (fun w' => w'.cell? ⟨w.heap.size, 0, none⟩ = some (.string k) ∧ w'.cell? ⟨w.heap.size, 1, none⟩ = some (.string v)) (exact SB.out _ (by repeat (first | exact BB.out | exact BA.out | exact Below.refl _ _ | apply Below.drew)))
      (first
      | (go_at_call 29; refine (hT _).mono ?_; rintro e wA ⟨rfl, bA⟩; have BA : Hid (Below wl.heap.size wl wA) := below_next (by repeat (first | exact BB.out | exact Below.refl _ _ | apply Below.drew)) (Nat.le_refl _) bA)
      | (go_at_call 33; refine (hI _).mono ?_; rintro e wB ⟨rfl, bB⟩; have BB : Hid (Below wl.heap.size wl wB) := below_next (by repeat (first | exact BA.out | exact Below.refl _ _ | apply Below.drew)) (Nat.le_refl _) bB))
    all_goals go_wp2
    all_goals go_ret
    all_goals trace_state
    all_goals exact ⟨rfl, below_next HB.out (by omega) BB.out⟩
end Go.Proofs.Ytlakemcbfeogkaa

namespace Go.Proofs.Ytlakemcbfeogkaa
open Go.RowKit
set_option linter.unusedVariables false

/-- A text that is told by its bytes. -/
theorem tv_text (l : List UInt8) : ∃ K : ByteArray, tv l = .string K ∧ K.data.toList = l ∧ K.size = l.length := ⟨⟨l.toArray⟩, rfl, rfl, tx_size l⟩
theorem text_is {K : ByteArray} {l : List UInt8} (h : K.data.toList = l) : K = ⟨l.toArray⟩ := by rw [← h]
theorem drawn_left {w w' : World} {b n : Nat} {R : Option (List UInt8)} (h : Left w w' b R) : Left w (w'.drewN n) b R := ⟨h.1.drewN n, grownBy_drewN h.2 n⟩
theorem left_row {w w' : World} {b : Nat} {R : Option (List UInt8)} (h : Left w w' b R) {base : Nat} {E : TypeId} {sz : Nat} {v : Value} {n : Nat} {xs : List Value} (ho : w.ownsRow base E sz v n xs) (hb : b < base) : w'.ownsRow base E sz v n xs := by
  refine ho.kept h.2 ?_
  cases hv : v.ownBlock with
  | none => exact .inl rfl
  | some k => exact .inr (fun e => by injection e with e; have := (ho.lt k hv).1; omega)
theorem left_drew {w w' : World} {b : Nat} {R : Option (List UInt8)} (h : Left w.drew w' b R) : Left w w' b R := ⟨h.1, ⟨h.2.os, h.2.tape, h.2.output, h.2.size, h.2.block⟩⟩

theorem intS_le (m : Nat) (R : Option (List UInt8)) : (intS (m : Int) R).1 ≤ m := by rw [intS_pos]; exact numS_le m R

/-- What pairs answers. -/
def PairsEnd (w : World) (s : List UInt8) (e : Ending) (w' : World) : Prop :=
  ((∃ xs v, e = .returned (.tuple #[v, .bool true]) ∧ IsBlock s xs ∧ w'.ownsRow w.heap.size 39 3 v xs.length (rowP xs)) ∨ (∃ v, e = .returned (.tuple #[v, .bool false]) ∧ ∀ xs, ¬ IsBlock s xs)) ∧ Below w.heap.size w w'

set_option maxHeartbeats 2000000 in
set_option maxRecDepth 100000 in
theorem rpairs_any (s : ByteArray) (hs : s.size ≤ 1048576) (w : World) :
    Calls Try.prog 39 #[.string s] w fun e w' => PairsEnd w s.data.toList e w' := by
  obtain ⟨i0, hi, hz0, hz1, hz2⟩ := info_parts infoPair
  have hsl : s.data.toList.length = s.size := by simp
  have hnew := heap_alloc_new w (.cells #[.string s, .bool false] 83)
  have hR0 : RDE (w.alloc (.cells #[.string s, .bool false] 83)) w.heap.size (some s.data.toList) :=
    ⟨s, ⟨rfl, by rw [block_cell hnew]; rfl, by rw [block_cell hnew]; rfl, block_free hnew 0, block_free hnew 1, by omega⟩⟩
  have hB0 : Below w.heap.size w (w.alloc (.cells #[.string s, .bool false] 83)) := (Below.refl _ w).alloc (Nat.le_refl _) _
  have HR0 := Lib.hid hR0
  have HB0 := Lib.hid hB0
  clear hnew hR0 hB0
  go_enter Try.func39, Try.ntmps39
  go_wp2
  generalize w.alloc (.cells #[.string s, .bool false] 83) = w0 at *
  go_loopw [5] (fun v wr => ∃ (done : List PairS) (rest : List UInt8), done.length ≤ 8 ∧ wr.ownsRow (w.heap.size + 1) 39 3 v done.length (rowP done) ∧ Hid (RDE wr w.heap.size (some rest) ∧ s.data.toList = blockL done ++ rest ∧ FineP done ∧ Below w.heap.size w wr))
    (fun _ wr => match wr.cell? ⟨w.heap.size, 0, none⟩ with | some (.string t) => t.size | _ => 0)
  case atStart => exact ⟨[], s.data.toList, by simp, World.ownsRow_nil _ _ _ _, HR0.out, rfl, (fun x h => by cases h), HB0.out⟩
  case round =>
    obtain ⟨done, rest, h8, hown, HI⟩ := hrel
    obtain ⟨t, hR⟩ := HI.out.1
    have c0 := hR.c0
    have c1 := hR.c1
    have ht : t.data.toList = rest := hR.text
    have htl : rest.length = t.size := by rw [← ht]; simp
    have hrl : rest.length ≤ s.size := by have := congrArg List.length HI.out.2.1; rw [List.length_append] at this; omega
    obtain ⟨va, vc, rfl⟩ := row_slice hown
    simp only [Option.isNone_some] at c1
    by_cases hr : rest = []
    · have hte : t.toList.isEmpty = true := by rw [ByteArray.toList_eq, ht, hr]; rfl
      have HE := Lib.hid hown
      have hz : IntKind.i64.wrap (done.length : Int) = (done.length : Int) := by rw [IntKind.wrap_i64]; omega
      clear hR hi hown
      by_cases hd : done = []
      · have HN : Hid (∀ xs, ¬ IsBlock s.data.toList xs) := fun xs h => by
          have h1 := HI.out.2.1
          rw [hd, hr] at h1
          have h2 := h.1.symm.trans h1
          have h3 := h.2.1
          cases xs with
          | nil => simp at h3
          | cons x r =>
            have h4 := congrArg List.length h2
            have h5 := pairL_pos x
            rw [blockL_cons, List.length_append] at h4
            simp [blockL] at h4
            rw [h4.1] at h5
            simp at h5
        have hd0 : done.length = 0 := by rw [hd]; rfl
        have HB := Lib.hid HI.out.2.2.2
        clear HI hd ht
        rw [hd0] at *
        go_wp2
        go_quiet (fail)
        go_wp2
        go_ret2
        exact ⟨.inr ⟨_, rfl, HN.out⟩, HB.out.trans (below_drewN (Below.refl _ _) _)⟩
      · have hd0 : 0 < done.length := List.length_pos_iff.2 hd
        have HN : Hid (IsBlock s.data.toList done) := ⟨by have := HI.out.2.1; rw [hr, List.append_nil] at this; exact this, hd0, h8, HI.out.2.2.1⟩
        have hg : (0 : Int) < (done.length : Int) := by omega
        have HB := Lib.hid HI.out.2.2.2
        clear HI hd ht
        go_wp2
        go_quiet (fail)
        go_wp2
        go_ret2
        exact ⟨.inl ⟨done, _, rfl, HN.out, ownsRow_base (ownsRow_below HE.out (below_drewN (Below.refl _ _) _)) (by omega)⟩, HB.out.trans (below_drewN (Below.refl _ _) _)⟩
    · have hte : t.toList.isEmpty = false := by
        rw [ByteArray.toList_eq, ht]
        cases hrl : rest with
        | nil => exact absurd hrl hr
        | cons a l => rfl
      have hmes : (match wr.cell? ⟨w.heap.size, 0, none⟩ with | some (.string t) => t.size | _ => 0) = rest.length := by rw [c0, htl]
      rw [hmes]
      have HRP : Hid (∀ k R1 n R2, textS (some rest) = (k, R1) → intS 8193 R1 = (n, R2) → readP rest = (k, n, if 0 < n then takeS ((n : Int) - 1) R2 else ([], R2))) := fun k R1 n R2 h1 h2 => by unfold readP; rw [h1]; simp only; rw [h2]
      -- the three reads
      cases hk : textS (some rest) with | mk k R1 =>
      cases hn : intS 8193 R1 with | mk n R2 =>
      have hct := rtext2_any HI.out.1
      rw [hk] at hct
      obtain ⟨K, eK1, eK2, eK3⟩ := tv_text k
      simp only [eK1] at hct
      have HCT := Lib.hid hct
      have hn0 : n ≤ 8193 := by
        have h1 := congrArg Prod.fst hn
        have h2 : (intS 8193 R1).1 ≤ 8193 := intS_le 8193 R1
        rw [h1] at h2
        exact h2
      have HRP2 := Lib.hid (HRP.out k R1 n R2 hk hn)
      clear hct hk HRP hmes
      go_wp2_with fail
      refine HCT.out.mono ?_
      rintro e w1 ⟨rfl, l1⟩
      have hci := rint2_any l1.1 8193 (by omega) (by omega)
      rw [hn] at hci
      simp only at hci
      have HCI := Lib.hid hci
      have hown1 := left_row l1 hown (by omega)
      have L1 := Lib.hid l1
      clear hci l1 hn hown hR c0 c1 ht hte
      go_wp2_with fail
      refine HCI.out.mono ?_
      rintro e w2 ⟨rfl, l2⟩
      have hown2 := left_row l2 hown1 (by omega)
      have L2 := Lib.hid (L1.out.trans l2)
      clear hown1 l2 L1
      by_cases hn1 : 0 < n
      · rw [if_pos hn1] at HRP2
        cases hv : takeS ((n : Int) - 1) R2 with | mk v R3 =>
        have hct2 := rtake_any L2.out.1 ((n : Int) - 1) (by omega)
        rw [hv] at hct2 HRP2
        obtain ⟨V, eV1, eV2, eV3⟩ := tv_text v
        simp only [eV1] at hct2
        have HCT2 := Lib.hid hct2
        have hw1 : wrap64 ((n : Int) - 1) = (n : Int) - 1 := IntWalk.wrap64_in _ (by omega)
        have hgn : (0 : Int) < (n : Int) := by omega
        have hn00 : ((n : Int) == 0) = false := by simp; omega
        clear hct2 hv
        go_wp2_with fail
        refine HCT2.out.mono ?_
        rintro e w3 ⟨rfl, l3⟩
        have hown3 := left_row l3 hown2 (by omega)
        have L3 := Lib.hid (L2.out.trans l3)
        clear hown2 l3 L2
        cases R3 with
        | none =>
          have HN : Hid (∀ xs, ¬ IsBlock s.data.toList xs) := no_block HI.out.2.1 HI.out.2.2.1 hr (.inr (fun x r hx e => by
            have h1 := readP_fine hx r
            rw [← e, HRP2.out] at h1
            injection h1 with _ h1
            injection h1 with _ h1
            injection h1 with _ h1
            cases h1))
          obtain ⟨t3, hR3⟩ := L3.out.1
          have c13 := hR3.c1
          have HBZ := Lib.hid (HI.out.2.2.2.trans (L3.out.below HI.out.2.2.2.size (Nat.le_refl _)))
          simp only [Option.isNone_none] at c13
          clear hR3 HI HRP2 hi
          go_wp2
          go_ret2
          exact ⟨.inr ⟨_, rfl, HN.out⟩, HBZ.out⟩
        | some r3 =>
          obtain ⟨t3, hR3⟩ := L3.out.1
          have c13 := hR3.c1
          simp only [Option.isNone_some] at c13
          have HBZ := Lib.hid (HI.out.2.2.2.trans (L3.out.below HI.out.2.2.2.size (Nat.le_refl _)))
          by_cases hK0 : k = []
          · have HN : Hid (∀ xs, ¬ IsBlock s.data.toList xs) := no_block HI.out.2.1 HI.out.2.2.1 hr (.inr (fun x r hx e => by
              have h1 := readP_fine hx r
              rw [← e, HRP2.out] at h1
              injection h1 with h1 _
              have h2 := ((fine_iff x).1 hx).1
              have h3 : x.key.data.toList.length = x.key.size := by simp
              rw [← h1, hK0] at h3
              simp at h3; omega))
            have hKe : K.toList.isEmpty = true := by rw [ByteArray.toList_eq, eK2, hK0]; rfl
            clear hR3 HI HRP2 hi hK0
            go_wp2
            go_ret2
            exact ⟨.inr ⟨_, rfl, HN.out⟩, HBZ.out⟩
          · have hKe : K.toList.isEmpty = false := by
              rw [ByteArray.toList_eq, eK2]
              cases hkl : k with
              | nil => exact absurd hkl hK0
              | cons a l => rfl
            have hK1 : 1 ≤ k.length := List.length_pos_iff.2 hK0
            by_cases hK64 : 64 < K.size
            · have HN : Hid (∀ xs, ¬ IsBlock s.data.toList xs) := no_block HI.out.2.1 HI.out.2.2.1 hr (.inr (fun x r hx e => by
                have h1 := readP_fine hx r
                rw [← e, HRP2.out] at h1
                injection h1 with h1 _
                have h2 := ((fine_iff x).1 hx).2.1
                have h3 : x.key.data.toList.length = x.key.size := by simp
                rw [← h1, ← eK3] at h3
                omega))
              have hg64 : (64 : Int) < (K.size : Int) := by omega
              clear hR3 HI HRP2 hi hK0
              go_wp2
              go_ret2
              exact ⟨.inr ⟨_, rfl, HN.out⟩, HBZ.out⟩
            · have hg64 : ¬ (64 : Int) < (K.size : Int) := by omega
              by_cases h88 : done.length = 8
              · have HN : Hid (∀ xs, ¬ IsBlock s.data.toList xs) := no_block HI.out.2.1 HI.out.2.2.1 hr (.inl h88)
                have hg8 : ((done.length : Int) == 8) = true := by simp; omega
                clear hR3 HI HRP2 hi hK0
                go_wp2
                go_ret2
                exact ⟨.inr ⟨_, rfl, HN.out⟩, HBZ.out⟩
              · have hg8 : ((done.length : Int) == 8) = false := by simp; omega
                obtain ⟨hx1, hx2⟩ := readP_inv HRP2.out hK1 (by omega)
                rw [← text_is eK2, ← text_is eV2, decide_eq_false (show ¬ n = 0 by omega)] at hx1 hx2
                have HX := Lib.hid (And.intro hx1 hx2)
                have HR3 := Lib.hid (RDE.below ⟨t3, hR3⟩ ((Below.refl _ w3).alloc (Nat.le_refl _) (.cells #[.string K, .string V, .bool false] 39)))
                have hlt3 : w.heap.size < w3.heap.size := World.block_lt_of_cell? w3 ⟨w.heap.size, 1, none⟩ c13
                clear hx1 hx2 hR3
                go_wp2_with (at_builtin; go_loud (refine wpList_append_own _ rfl (.tmp 45) (.tmp 51) 22 rfl (w.heap.size + 1) 39 i0 _ 3 40 Try.underlying22 hi hz0 hz1 hz2 rfl (by decide) _ _ _ rfl (hown3.alloc _) ⟨w3.heap.size, 0, none⟩ 1 1 [.string K, .string V, .bool false] rfl rfl (cells_new w3 ⟨K, V, false⟩) (three_one ⟨K, V, false⟩) ?p3 ?p4 ?p5 ?_))
                case p3 => unfold maxLen; omega
                case p4 => omega
                case p5 => simp; omega
                intro v' w4 hown' hgrow _
                have hrow' : w4.ownsRow (w.heap.size + 1) 39 3 v' (done ++ [(⟨K, V, false⟩ : PairS)]).length (rowP (done ++ [(⟨K, V, false⟩ : PairS)])) := by
                  rw [List.length_append, rowP_snoc]
                  exact hown'
                have HRD := Lib.hid (HR3.out.kept hgrow (fun e => by
                  cases hv0 : (Value.slice va done.length vc).ownBlock with
                  | none => rw [hv0] at e; cases e
                  | some j => rw [hv0] at e; injection e with e; have := (hown3.lt j hv0).1; omega))
                have HB4 := Lib.hid ((HBZ.out.alloc (by omega) _).grown hgrow (by simp; omega) (fun j hj => by have := (hown3.lt j hj).1; omega))
                clear hown' hgrow hi
                go_wp2
                go_roundw
                case rel =>
                  refine ⟨done ++ [⟨K, V, false⟩], r3, by rw [List.length_append, List.length_singleton]; omega, hrow', HRD.out, ?_, ?_, HB4.out⟩
                  · rw [blockL_snoc, List.append_assoc, ← HX.out.2]; exact HI.out.2.1
                  · intro y hy
                    rcases List.mem_append.1 hy with hy | hy
                    · exact HI.out.2.2.1 y hy
                    · rw [List.mem_singleton.1 hy]; exact HX.out.1
                case measure =>
                  obtain ⟨t4, hR4⟩ := HRD.out
                  have e4 : r3.length = t4.size := by have := congrArg List.length hR4.text; simp at this; omega
                  have e5 := congrArg List.length HX.out.2
                  have e6 := pairL_pos ⟨K, V, false⟩
                  rw [List.length_append] at e5
                  simp only [hR4.c0]
                  omega
      · have hn2 : n = 0 := by omega
        subst hn2
        rw [if_neg (by omega)] at HRP2
        obtain ⟨R3, eR3⟩ : ∃ R3, R2 = R3 := ⟨_, rfl⟩
        rw [eR3] at L2 HRP2
        obtain ⟨V, eV1, eV2, eV3⟩ : ∃ V : ByteArray, V = ⟨#[]⟩ ∧ V.data.toList = [] ∧ V.size = 0 := ⟨_, rfl, rfl, rfl⟩
        have hn00 : (((0 : Nat) : Int) == 0) = true := rfl
        clear eR3
        subst eV1
        cases R3 with
        | none =>
          have HN : Hid (∀ xs, ¬ IsBlock s.data.toList xs) := no_block HI.out.2.1 HI.out.2.2.1 hr (.inr (fun x r hx e => by
            have h1 := readP_fine hx r
            rw [← e, HRP2.out] at h1
            injection h1 with _ h1
            injection h1 with _ h1
            injection h1 with _ h1
            cases h1))
          obtain ⟨t3, hR3⟩ := L2.out.1
          have c13 := hR3.c1
          have HBZ := Lib.hid (HI.out.2.2.2.trans (L2.out.below HI.out.2.2.2.size (Nat.le_refl _)))
          simp only [Option.isNone_none] at c13
          clear hR3 HI HRP2 hi
          go_wp2
          go_ret2
          exact ⟨.inr ⟨_, rfl, HN.out⟩, HBZ.out⟩
        | some r3 =>
          obtain ⟨t3, hR3⟩ := L2.out.1
          have c13 := hR3.c1
          simp only [Option.isNone_some] at c13
          have HBZ := Lib.hid (HI.out.2.2.2.trans (L2.out.below HI.out.2.2.2.size (Nat.le_refl _)))
          by_cases hK0 : k = []
          · have HN : Hid (∀ xs, ¬ IsBlock s.data.toList xs) := no_block HI.out.2.1 HI.out.2.2.1 hr (.inr (fun x r hx e => by
              have h1 := readP_fine hx r
              rw [← e, HRP2.out] at h1
              injection h1 with h1 _
              have h2 := ((fine_iff x).1 hx).1
              have h3 : x.key.data.toList.length = x.key.size := by simp
              rw [← h1, hK0] at h3
              simp at h3; omega))
            have hKe : K.toList.isEmpty = true := by rw [ByteArray.toList_eq, eK2, hK0]; rfl
            clear hR3 HI HRP2 hi hK0
            go_wp2
            go_ret2
            exact ⟨.inr ⟨_, rfl, HN.out⟩, HBZ.out⟩
          · have hKe : K.toList.isEmpty = false := by
              rw [ByteArray.toList_eq, eK2]
              cases hkl : k with
              | nil => exact absurd hkl hK0
              | cons a l => rfl
            have hK1 : 1 ≤ k.length := List.length_pos_iff.2 hK0
            by_cases hK64 : 64 < K.size
            · have HN : Hid (∀ xs, ¬ IsBlock s.data.toList xs) := no_block HI.out.2.1 HI.out.2.2.1 hr (.inr (fun x r hx e => by
                have h1 := readP_fine hx r
                rw [← e, HRP2.out] at h1
                injection h1 with h1 _
                have h2 := ((fine_iff x).1 hx).2.1
                have h3 : x.key.data.toList.length = x.key.size := by simp
                rw [← h1, ← eK3] at h3
                omega))
              have hg64 : (64 : Int) < (K.size : Int) := by omega
              clear hR3 HI HRP2 hi hK0
              go_wp2
              go_ret2
              exact ⟨.inr ⟨_, rfl, HN.out⟩, HBZ.out⟩
            · have hg64 : ¬ (64 : Int) < (K.size : Int) := by omega
              by_cases h88 : done.length = 8
              · have HN : Hid (∀ xs, ¬ IsBlock s.data.toList xs) := no_block HI.out.2.1 HI.out.2.2.1 hr (.inl h88)
                have hg8 : ((done.length : Int) == 8) = true := by simp; omega
                clear hR3 HI HRP2 hi hK0
                go_wp2
                go_ret2
                exact ⟨.inr ⟨_, rfl, HN.out⟩, HBZ.out⟩
              · have hg8 : ((done.length : Int) == 8) = false := by simp; omega
                obtain ⟨hx1, hx2⟩ := readP_inv HRP2.out hK1 (by omega)
                rw [← text_is eK2, ← text_is eV2, decide_eq_true (show 0 = 0 from rfl)] at hx1 hx2
                have HX := Lib.hid (And.intro hx1 hx2)
                have HR3 := Lib.hid (RDE.below ⟨t3, hR3⟩ ((Below.refl _ w2).alloc (Nat.le_refl _) (.cells #[.string K, .string ⟨#[]⟩, .bool true] 39)))
                have hlt3 : w.heap.size < w2.heap.size := World.block_lt_of_cell? w2 ⟨w.heap.size, 1, none⟩ c13
                clear hx1 hx2 hR3
                go_wp2_with (at_builtin; go_loud (refine wpList_append_own _ rfl (.tmp 45) (.tmp 51) 22 rfl (w.heap.size + 1) 39 i0 _ 3 40 Try.underlying22 hi hz0 hz1 hz2 rfl (by decide) _ _ _ rfl (hown2.alloc _) ⟨w2.heap.size, 0, none⟩ 1 1 [.string K, .string ⟨#[]⟩, .bool true] rfl rfl (cells_new w2 ⟨K, ⟨#[]⟩, true⟩) (three_one ⟨K, ⟨#[]⟩, true⟩) ?q3 ?q4 ?q5 ?_))
                case q3 => unfold maxLen; omega
                case q4 => omega
                case q5 => simp; omega
                intro v' w4 hown' hgrow _
                have hrow' : w4.ownsRow (w.heap.size + 1) 39 3 v' (done ++ [(⟨K, ⟨#[]⟩, true⟩ : PairS)]).length (rowP (done ++ [(⟨K, ⟨#[]⟩, true⟩ : PairS)])) := by
                  rw [List.length_append, rowP_snoc]
                  exact hown'
                have HRD := Lib.hid (HR3.out.kept hgrow (fun e => by
                  cases hv0 : (Value.slice va done.length vc).ownBlock with
                  | none => rw [hv0] at e; cases e
                  | some j => rw [hv0] at e; injection e with e; have := (hown2.lt j hv0).1; omega))
                have HB4 := Lib.hid ((HBZ.out.alloc (by omega) _).grown hgrow (by simp; omega) (fun j hj => by have := (hown2.lt j hj).1; omega))
                clear hown' hgrow hi
                go_wp2
                go_roundw
                case rel =>
                  refine ⟨done ++ [⟨K, ⟨#[]⟩, true⟩], r3, by rw [List.length_append, List.length_singleton]; omega, hrow', HRD.out, ?_, ?_, HB4.out⟩
                  · rw [blockL_snoc, List.append_assoc, ← HX.out.2]; exact HI.out.2.1
                  · intro y hy
                    rcases List.mem_append.1 hy with hy | hy
                    · exact HI.out.2.2.1 y hy
                    · rw [List.mem_singleton.1 hy]; exact HX.out.1
                case measure =>
                  obtain ⟨t4, hR4⟩ := HRD.out
                  have e4 : r3.length = t4.size := by have := congrArg List.length hR4.text; simp at this; omega
                  have e5 := congrArg List.length HX.out.2
                  have e6 := pairL_pos ⟨K, ⟨#[]⟩, true⟩
                  rw [List.length_append] at e5
                  simp only [hR4.c0]
                  omega
end Go.Proofs.Ytlakemcbfeogkaa

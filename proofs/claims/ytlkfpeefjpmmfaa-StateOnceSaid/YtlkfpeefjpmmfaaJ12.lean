/- Joined: M02 M02b. -/
import Derived.Test.YtlkfpeefjpmmfaaM01
import Derived.Test.YtlkfpeefjpmmfaaJ02
import Derived.Laws.AppendOwn

namespace Go.Proofs.Ytlkfpeefjpmmfaa
open Go.RowKit
set_option linter.unusedVariables false

/-- A number of 32 bits: behind a name. -/
def U32 (n : Nat) : Prop := n < 4294967296
theorem U32.out {n : Nat} (h : U32 n) : n < 4294967296 := h
theorem U32.u64 {n : Nat} (h : U32 n) : U64 n := by have := h.out; unfold U64; omega

/-- One step of the checksum. -/
def stepC (c : Nat) : Nat := if c % 2 = 1 then c / 2 ^^^ 3988292384 else c / 2
def stepsC : Nat → Nat → Nat
  | 0, c => c
  | k + 1, c => stepC (stepsC k c)
def byteC (c : Nat) (b : UInt8) : Nat := stepsC 8 (c ^^^ b.toNat)
def crcS (l : List UInt8) : Nat := l.foldl byteC 4294967295
def crcL (l : List UInt8) : Nat := 4294967295 - crcS l

theorem xor32 {a b : Nat} (ha : a < 4294967296) (hb : b < 4294967296) : a ^^^ b < 4294967296 := Nat.xor_lt_two_pow (n := 32) ha hb

theorem stepC_32 {c : Nat} (h : U32 c) : U32 (stepC c) := by
  have := h.out
  unfold stepC U32
  split
  · exact xor32 (by omega) (by omega)
  · omega
theorem stepsC_32 (k : Nat) {c : Nat} (h : U32 c) : U32 (stepsC k c) := by
  induction k with
  | zero => exact h
  | succ k ih => exact stepC_32 ih
theorem byteC_32 {c : Nat} (h : U32 c) (b : UInt8) : U32 (byteC c b) := stepsC_32 8 (xor32 h.out (by have := UInt8.toNat_lt b; omega))
theorem foldC_32 (l : List UInt8) : ∀ {c : Nat}, U32 c → U32 (l.foldl byteC c) := by
  induction l with
  | nil => intro c h; exact h
  | cons b l ih => intro c h; exact ih (byteC_32 h b)
theorem crcS_32 (l : List UInt8) : U32 (crcS l) := foldC_32 l (by unfold U32; omega)
theorem crcL_32 (l : List UInt8) : U32 (crcL l) := by unfold crcL U32; omega

theorem xor_left {a b c : Nat} (h : a ^^^ b = a ^^^ c) : b = c := by
  have := congrArg (fun x => a ^^^ x) h
  simpa [← Nat.xor_assoc] using this
theorem xor_right {a b c : Nat} (h : b ^^^ a = c ^^^ a) : b = c := xor_left (a := a) (by rw [Nat.xor_comm a, Nat.xor_comm a]; exact h)

theorem top_bit (x : Nat) (h : x < 2147483648) : x.testBit 31 = false := Nat.testBit_lt_two_pow h

theorem stepC_inj {c d : Nat} (hc : U32 c) (hd : U32 d) (h : stepC c = stepC d) : c = d := by
  have hc := hc.out
  have hd := hd.out
  have tc := top_bit (c / 2) (by omega)
  have td := top_bit (d / 2) (by omega)
  have tp : (3988292384 : Nat).testBit 31 = true := by decide
  have tb := congrArg (fun x => x.testBit 31) h
  unfold stepC at h tb
  by_cases c1 : c % 2 = 1 <;> by_cases d1 : d % 2 = 1
  · rw [if_pos c1, if_pos d1] at h
    have := xor_right h
    omega
  · simp [c1, d1, Nat.testBit_xor, tc, td, tp] at tb
  · simp [c1, d1, Nat.testBit_xor, tc, td, tp] at tb
  · rw [if_neg c1, if_neg d1] at h
    omega

theorem stepsC_inj (k : Nat) {c d : Nat} (hc : U32 c) (hd : U32 d) (h : stepsC k c = stepsC k d) : c = d := by
  induction k with
  | zero => exact h
  | succ k ih => exact ih (stepC_inj (stepsC_32 k hc) (stepsC_32 k hd) h)

theorem byteC_inj {c d : Nat} (hc : U32 c) (hd : U32 d) (b : UInt8) (h : byteC c b = byteC d b) : c = d := by
  have hb := UInt8.toNat_lt b
  exact xor_right (stepsC_inj 8 (xor32 hc.out (by omega)) (xor32 hd.out (by omega)) h)

theorem byteC_ne {c : Nat} (hc : U32 c) {a b : UInt8} (h : a ≠ b) : byteC c a ≠ byteC c b := by
  intro e
  have ha := UInt8.toNat_lt a
  have hb := UInt8.toNat_lt b
  have := xor_left (stepsC_inj 8 (xor32 hc.out (by omega)) (xor32 hc.out (by omega)) e)
  exact h (UInt8.toNat_inj.1 this)

theorem foldC_inj (l : List UInt8) : ∀ {c d : Nat}, U32 c → U32 d → l.foldl byteC c = l.foldl byteC d → c = d := by
  induction l with
  | nil => intro c d _ _ h; exact h
  | cons b l ih => intro c d hc hd h; exact byteC_inj hc hd b (ih (byteC_32 hc b) (byteC_32 hd b) h)

/-- Where one byte is another one the checksum is another one. -/
theorem crcL_set {l : List UInt8} {i : Nat} (hi : i < l.length) {x : UInt8} (hx : x ≠ l[i]) : crcL (l.set i x) ≠ crcL l := by
  intro e
  have b1 := (crcS_32 (l.set i x)).out
  have b2 := (crcS_32 l).out
  have e2 : crcS (l.set i x) = crcS l := by unfold crcL at e; omega
  clear e b1 b2
  have e3 : l = l.take i ++ l[i] :: l.drop (i + 1) := by rw [List.getElem_cons_drop, List.take_append_drop]
  have e4 : l.set i x = l.take i ++ x :: l.drop (i + 1) := by rw [List.set_eq_take_append_cons_drop, if_pos hi]
  unfold crcS at e2
  rw [e4] at e2
  generalize l[i] = y at *
  generalize l.take i = p at *
  generalize l.drop (i + 1) = q at *
  subst e3
  rw [List.foldl_append, List.foldl_append] at e2
  have h0 : U32 (p.foldl byteC 4294967295) := foldC_32 p (by unfold U32; omega)
  exact byteC_ne h0 hx (foldC_inj q (byteC_32 h0 _) (byteC_32 h0 _) e2)

theorem crcS_take {l : List UInt8} {k : Nat} (h : k < l.length) : crcS (l.take (k + 1)) = byteC (crcS (l.take k)) l[k] := by
  rw [List.take_succ_eq_append_getElem h, crcS, List.foldl_append]; rfl

/-- The checksum's bytes. -/
def sumL (l : List UInt8) : List UInt8 := dig 4 (crcL l)
theorem sumL_len (l : List UInt8) : (sumL l).length = 4 := rfl
theorem sumL_fixed (l : List UInt8) : (fixedL (crcL l)).drop 4 = sumL l := rfl
theorem sumL_inj {l m : List UInt8} (h : sumL l = sumL m) : crcL l = crcL m := by
  have := (dig_less 4 (crcL l) (crcL m)).2.1 h
  have h1 := (crcL_32 l).out
  have h2 := (crcL_32 m).out
  rw [show (256 : Nat) ^ 4 = 4294967296 by decide, Nat.mod_eq_of_lt h1, Nat.mod_eq_of_lt h2] at this
  exact this

/-- A frame's bytes. -/
def frameL (l : List UInt8) : List UInt8 := putL l.length ++ (sumL l ++ l)
theorem frameL_len (l : List UInt8) : (frameL l).length = (putL l.length).length + 4 + l.length := by simp [frameL, sumL_len]; omega

/-- Is it a number that was cut off? -/
def isCut (l : List UInt8) : Bool := decide (l.length < 10) && l.all fun c => decide (128 ≤ c.toNat)

/-- What Next answers: the error, the content, what is left. -/
def nextL (l : List UInt8) : Nat × List UInt8 × List UInt8 :=
  if isCut l = true then (20, [], []) else
  match getL l with
  | none => (21, [], [])
  | some (n, k) =>
    if 1048576 < n then (21, [], []) else
    if (l.drop k).length < 4 + n then (20, [], []) else
    if (l.drop k).take 4 = sumL (((l.drop k).take (4 + n)).drop 4) then (0, ((l.drop k).take (4 + n)).drop 4, (l.drop k).drop (4 + n)) else (21, [], [])

theorem nextL_cut {l : List UInt8} (h : isCut l = true) : nextL l = (20, [], []) := by rw [nextL, if_pos h]
theorem nextL_none {l : List UInt8} (h : isCut l = false) (hg : getL l = none) : nextL l = (21, [], []) := by simp [nextL, h, hg]
theorem nextL_great {l : List UInt8} {n k : Nat} (h : isCut l = false) (hg : getL l = some (n, k)) (hn : 1048576 < n) : nextL l = (21, [], []) := by simp [nextL, h, hg, hn]
theorem nextL_short {l : List UInt8} {n k : Nat} (h : isCut l = false) (hg : getL l = some (n, k)) (hn : ¬ 1048576 < n) (hl : l.length - k < 4 + n) : nextL l = (20, [], []) := by
  simp only [nextL, h, hg]
  rw [if_neg (by simp), if_neg hn, if_pos (by simpa using hl)]
theorem nextL_wrong {l : List UInt8} {n k : Nat} (h : isCut l = false) (hg : getL l = some (n, k)) (hn : ¬ 1048576 < n) (hl : ¬ l.length - k < 4 + n) (hs : (l.drop k).take 4 ≠ sumL (((l.drop k).take (4 + n)).drop 4)) : nextL l = (21, [], []) := by
  simp only [nextL, h, hg]
  rw [if_neg (by simp), if_neg hn, if_neg (by simpa using hl), if_neg hs]
theorem nextL_ok {l : List UInt8} {n k : Nat} (h : isCut l = false) (hg : getL l = some (n, k)) (hn : ¬ 1048576 < n) (hl : ¬ l.length - k < 4 + n) (hs : (l.drop k).take 4 = sumL (((l.drop k).take (4 + n)).drop 4)) :
    nextL l = (0, ((l.drop k).take (4 + n)).drop 4, (l.drop k).drop (4 + n)) := by
  simp only [nextL, h, hg]
  rw [if_neg (by simp), if_neg hn, if_neg (by simpa using hl), if_pos hs]

theorem nextL_less {l : List UInt8} (h : (nextL l).1 = 0) : (nextL l).2.2.length + 5 ≤ l.length ∧ (nextL l).2.1.length ≤ l.length := by
  by_cases hc : isCut l = true
  · rw [nextL_cut hc] at h; cases h
  have hc : isCut l = false := by simpa using hc
  cases hg : getL l with
  | none => rw [nextL_none hc hg] at h; cases h
  | some p =>
    obtain ⟨n, k⟩ := p
    have hp := getL_pos hg
    by_cases hn : 1048576 < n
    · rw [nextL_great hc hg hn] at h; cases h
    by_cases hl : l.length - k < 4 + n
    · rw [nextL_short hc hg hn hl] at h; cases h
    by_cases hs : (l.drop k).take 4 = sumL (((l.drop k).take (4 + n)).drop 4)
    · rw [nextL_ok hc hg hn hl hs]
      simp; omega
    · rw [nextL_wrong hc hg hn hl hs] at h; cases h

/-- What Scan answers: the contents, what is left. -/
def scanL (l : List UInt8) : List (List UInt8) × List UInt8 :=
  if h : (nextL l).1 = 0 then ((nextL l).2.1 :: (scanL (nextL l).2.2).1, (scanL (nextL l).2.2).2) else ([], l)
termination_by l.length
decreasing_by all_goals (have := (nextL_less h).1; omega)

theorem scanL_ok {l a r : List UInt8} (h : nextL l = (0, a, r)) : scanL l = (a :: (scanL r).1, (scanL r).2) := by
  rw [scanL, dif_pos (by rw [h]), h]
theorem scanL_bad {l : List UInt8} (h : (nextL l).1 ≠ 0) : scanL l = ([], l) := by rw [scanL, dif_neg h]

theorem putL_high (k : Nat) : ∀ n : Nat, n < 128 ^ (k + 1) → ∀ j, j < (putL n).length - 1 → ∀ c, (putL n)[j]? = some c → 128 ≤ c.toNat := by
  induction k with
  | zero => intro n h; rw [putL_lt (by simpa using h)]; simp
  | succ k ih =>
    intro n h
    by_cases h1 : n < 128
    · rw [putL_lt h1]; simp
    · rw [putL_ge (by omega)]
      intro j hj c hc
      cases j with
      | zero =>
        simp only [List.getElem?_cons_zero, Option.some.injEq] at hc
        subst hc
        rw [u8_toNat (by omega)]; omega
      | succ j =>
        simp only [List.length_cons, Nat.add_one_sub_one] at hj
        rw [List.getElem?_cons_succ] at hc
        exact ih (n / 128) (by rw [Nat.pow_succ] at h; omega) j (by omega) c hc

theorem putL_low (k : Nat) : ∀ n : Nat, n < 128 ^ (k + 1) → ∃ c ∈ putL n, c.toNat < 128 := by
  induction k with
  | zero =>
    intro n h
    have h : n < 128 := by simpa using h
    exact ⟨UInt8.ofNat n, by rw [putL_lt h]; simp, by rw [u8_toNat (by omega)]; omega⟩
  | succ k ih =>
    intro n h
    by_cases h1 : n < 128
    · exact ⟨UInt8.ofNat n, by rw [putL_lt h1]; simp, by rw [u8_toNat (by omega)]; omega⟩
    · obtain ⟨c, hc, h2⟩ := ih (n / 128) (by rw [Nat.pow_succ] at h; omega)
      exact ⟨c, by rw [putL_ge (by omega)]; exact List.mem_cons_of_mem _ hc, h2⟩

theorem isCut_not {l : List UInt8} {c : UInt8} (h : c ∈ l) (hc : c.toNat < 128) : isCut l = false := by
  unfold isCut
  rw [Bool.and_eq_false_iff]
  right
  rw [List.all_eq_false]
  exact ⟨c, h, by simpa using hc⟩

theorem isCut_put {n : Nat} (hn : n ≤ 1048576) (r : List UInt8) : isCut (putL n ++ r) = false := by
  obtain ⟨c, hc, h⟩ := putL_low 9 n (by simp; omega)
  exact isCut_not (List.mem_append_left _ hc) h

theorem small64 {n : Nat} (hn : n ≤ 1048576) : U64 n := by unfold U64; omega

/-- What was wrapped comes back, whatever stands behind it. -/
theorem nextL_frame {l : List UInt8} (hl : l.length ≤ 1048576) (r : List UInt8) : nextL (frameL l ++ r) = (0, l, r) := by
  have e : frameL l ++ r = putL l.length ++ (sumL l ++ (l ++ r)) := by simp [frameL]
  rw [e]
  have hg := getL_of_put (small64 hl) (sumL l ++ (l ++ r))
  have hd : (putL l.length ++ (sumL l ++ (l ++ r))).drop (putL l.length).length = sumL l ++ (l ++ r) := by simp
  have h4 := sumL_len l
  have ht : (sumL l ++ (l ++ r)).take (4 + l.length) = sumL l ++ l := by
    rw [← List.append_assoc, List.take_left' (by simp [h4])]
  have hr : (sumL l ++ (l ++ r)).drop (4 + l.length) = r := by
    rw [← List.append_assoc, List.drop_left' (by simp [h4])]
  have := nextL_ok (isCut_put hl _) hg (by omega) (by simp [h4]) (by rw [hd, ht, List.take_left' h4, List.drop_left' h4])
  rw [this, hd, ht, hr, List.drop_left' h4]

/-- A frame that is cut short is told as short. -/
theorem nextL_part {l : List UInt8} (hl : l.length ≤ 1048576) {k : Nat} (hk : k < (frameL l).length) : nextL ((frameL l).take k) = (20, [], []) := by
  have hlen := frameL_len l
  have h10 := putL_len 2 l.length (by simp; omega)
  by_cases hc : k < (putL l.length).length
  · apply nextL_cut
    have e : (frameL l).take k = (putL l.length).take k := by rw [frameL, List.take_append_of_le_length (by omega)]
    rw [e]
    unfold isCut
    rw [Bool.and_eq_true, List.all_eq_true]
    refine ⟨by simp; omega, fun c hcm => ?_⟩
    obtain ⟨j, hj, rfl⟩ := List.getElem_of_mem hcm
    rw [List.length_take] at hj
    have := putL_high 9 l.length (by simp; omega) j (by omega) _ (List.getElem?_eq_getElem (by omega))
    simpa using this
  · have e : (frameL l).take k = putL l.length ++ (sumL l ++ l).take (k - (putL l.length).length) := by
      rw [frameL, List.take_append, List.take_of_length_le (by omega)]
    rw [e]
    refine nextL_short (isCut_put hl _) (getL_of_put (small64 hl) _) (by omega) ?_
    simp [sumL_len]
    omega

/-- A frame one of whose bytes behind its length is another one is refused. -/
theorem nextL_turned {l : List UInt8} (hl : l.length ≤ 1048576) {i : Nat} (hi : i < 4 + l.length) {x : UInt8} (hx : (sumL l ++ l)[i]? ≠ some x) :
    nextL ((frameL l).set ((putL l.length).length + i) x) = (21, [], []) := by
  have h4 := sumL_len l
  have e : (frameL l).set ((putL l.length).length + i) x = putL l.length ++ (sumL l ++ l).set i x := by
    rw [frameL, List.set_append_right _ _ (by omega), Nat.add_sub_cancel_left]
  rw [e]
  have hd : (putL l.length ++ (sumL l ++ l).set i x).drop (putL l.length).length = (sumL l ++ l).set i x := by simp
  refine nextL_wrong (isCut_put hl _) (getL_of_put (small64 hl) _) (by omega) (by simp [h4]) ?_
  rw [hd]
  have ht : ((sumL l ++ l).set i x).take (4 + l.length) = (sumL l ++ l).set i x := List.take_of_length_le (by simp [h4])
  rw [ht]
  by_cases h : i < 4
  · rw [List.set_append_left _ _ (by omega), List.take_left' (by simp [h4]), List.drop_left' (by simp [h4])]
    intro e2
    apply hx
    rw [List.getElem?_append_left (by omega), ← e2, List.getElem?_set_self (by omega)]
  · rw [List.set_append_right _ _ (by omega), List.take_left' h4, List.drop_left' h4]
    intro e2
    have hi2 : i - 4 < l.length := by omega
    rw [h4] at e2
    refine crcL_set hi2 (x := x) ?_ (sumL_inj e2).symm
    intro e3
    apply hx
    rw [List.getElem?_append_right (by omega), h4, List.getElem?_eq_getElem hi2, e3]

/-- Frames, one behind the other. -/
def framesL (ls : List (List UInt8)) : List UInt8 := ls.flatMap frameL
theorem framesL_cons (l : List UInt8) (ls : List (List UInt8)) : framesL (l :: ls) = frameL l ++ framesL ls := rfl
theorem framesL_take {ls : List (List UInt8)} {k : Nat} (h : k < ls.length) : framesL (ls.take (k + 1)) = framesL (ls.take k) ++ frameL ls[k] := by
  rw [List.take_succ_eq_append_getElem h, framesL, framesL, List.flatMap_append]; simp only [List.flatMap_cons, List.flatMap_nil, List.append_nil]

theorem nextL_nil : nextL [] = (20, [], []) := nextL_cut rfl

theorem scanL_frames {ls : List (List UInt8)} (h : ∀ l ∈ ls, l.length ≤ 1048576) (r : List UInt8) (hr : (nextL r).1 ≠ 0) : scanL (framesL ls ++ r) = (ls, r) := by
  induction ls with
  | nil => exact scanL_bad hr
  | cons l ls ih =>
    rw [framesL_cons, List.append_assoc, scanL_ok (nextL_frame (h l (by simp)) _), ih fun m hm => h m (by simp [hm])]

/-- Frames, cut at a place: k of them are whole. -/
theorem scanL_part {ls : List (List UInt8)} (h : ∀ l ∈ ls, l.length ≤ 1048576) {k cut : Nat} (hk : k ≤ ls.length) (h1 : (framesL (ls.take k)).length ≤ cut)
    (h2 : ∀ hlt : k < ls.length, cut < (framesL (ls.take (k + 1))).length) (h3 : cut ≤ (framesL ls).length) :
    scanL ((framesL ls).take cut) = (ls.take k, (framesL ls).take cut |>.drop (framesL (ls.take k)).length) ∧ ((framesL ls).take cut |>.drop (framesL (ls.take k)).length).length + (framesL (ls.take k)).length = cut := by
  have e : framesL ls = framesL (ls.take k) ++ framesL (ls.drop k) := by rw [framesL, framesL, framesL, ← List.flatMap_append, List.take_append_drop]
  have e2 : (framesL ls).take cut = framesL (ls.take k) ++ (framesL (ls.drop k)).take (cut - (framesL (ls.take k)).length) := by
    rw [e, List.take_append, List.take_of_length_le h1]
  refine ⟨?_, ?_⟩
  · rw [e2, List.drop_left]
    refine scanL_frames (fun l hl => h l (List.mem_of_mem_take hl)) _ ?_
    by_cases hlt : k < ls.length
    · have h2 := h2 hlt
      rw [framesL_take hlt, List.length_append] at h2
      rw [List.drop_eq_getElem_cons hlt, framesL_cons, List.take_append_of_le_length (by omega), nextL_part (h _ (List.getElem_mem _)) (by omega)]
      simp
    · rw [List.drop_eq_nil_of_le (by omega)]
      simp [framesL, nextL_nil]
  · rw [List.length_drop, List.length_take]; omega

theorem frameL_le {l : List UInt8} (hl : l.length ≤ 1048576) : (frameL l).length ≤ l.length + 14 := by
  rw [frameL_len]
  have := putL_len10 (small64 hl)
  omega

end Go.Proofs.Ytlkfpeefjpmmfaa

namespace Go.Proofs.Ytlkfpeefjpmmfaa
open Go.RowKit
set_option linter.unusedVariables false

theorem ownsRow_below {w w' : World} {base : Nat} {e : TypeId} {size : Nat} {v : Value} {n : Nat} {xs : List Value} (h : w.ownsRow base e size v n xs) (hb : Below w.heap.size w w') : w'.ownsRow base e size v n xs :=
  h.kept (grownBy_below none hb) (by cases v.ownBlock <;> simp)

/-- A text as a value. -/
def tx (l : List UInt8) : Value := .string ⟨l.toArray⟩
theorem tx_data (s : ByteArray) : tx s.data.toList = .string s := by unfold tx; congr 1

/-- Scan under way: 'done' is collected, t is left. -/
structure ScanRel (s : ByteArray) (done : List (List UInt8)) (t : ByteArray) : Prop where
  all : scanL s.data.toList = (done ++ (scanL t.data.toList).1, (scanL t.data.toList).2)
  len : 5 * done.length + t.size ≤ s.size

theorem ScanRel.start (s : ByteArray) : ScanRel s [] s := ⟨by simp, by simp⟩

theorem ScanRel.next {s t a r : ByteArray} {done : List (List UInt8)} (h : ScanRel s done t) (hn : nextL t.data.toList = (0, a.data.toList, r.data.toList)) :
    ScanRel s (done ++ [a.data.toList]) r ∧ r.size < t.size := by
  have hl := (nextL_less (l := t.data.toList) (by rw [hn])).1
  rw [hn] at hl
  simp only [Array.length_toList] at hl
  have e1 : r.data.size = r.size := rfl
  have e2 : t.data.size = t.size := rfl
  have := h.len
  refine ⟨⟨?_, ?_⟩, by omega⟩
  · rw [h.all, scanL_ok hn]; simp
  · rw [List.length_append, List.length_singleton]; omega

theorem ScanRel.stop {s t : ByteArray} {done : List (List UInt8)} {k : Nat} (h : ScanRel s done t) (hk : k = 20 ∨ k = 21) (hn : nextL t.data.toList = (k, [], [])) :
    (scanL s.data.toList).1 = done ∧ (scanL s.data.toList).2.length = t.size := by
  have := scanL_bad (l := t.data.toList) (by rw [hn]; simp; omega)
  rw [h.all, this]
  simp

end Go.Proofs.Ytlkfpeefjpmmfaa

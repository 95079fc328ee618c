/- Joined: M02 M02b M02c W02 W02b W02c W02e R02 R02b R02w R02d R02e. -/
import Derived.Test.YtlakemcbfeogkaaG1
import Derived.Laws.AppendOwn
import Derived.WalkMore
import Derived.ScopeJumps
import Derived.Deep.CutBlock
import Derived.Deep.DeepCutAuto

namespace Go.Proofs.Ytlakemcbfeogkaa
open Go.RowKit
set_option linter.unusedVariables false

/-- A number of 32 bits: behind a name. -/
def U32 (n : Nat) : Prop := n < 4294967296
theorem U32.out {n : Nat} (h : U32 n) : n < 4294967296 := h
theorem U32.u64 {n : Nat} (h : U32 n) : U64 n := by have := h.out; unfold U64; omega

/-- One step of the checksum. -/
def stepC (c : Nat) : Nat := if c % 2 = 1 then c / 2 ^^^ 3988292384 else c / 2
def stepsC : Nat → Nat → Nat
  | 0, c => c
  | k + 1, c => stepC (stepsC k c)
def byteC (c : Nat) (b : UInt8) : Nat := stepsC 8 (c ^^^ b.toNat)
def crcS (l : List UInt8) : Nat := l.foldl byteC 4294967295
def crcL (l : List UInt8) : Nat := 4294967295 - crcS l

theorem xor32 {a b : Nat} (ha : a < 4294967296) (hb : b < 4294967296) : a ^^^ b < 4294967296 := Nat.xor_lt_two_pow (n := 32) ha hb

theorem stepC_32 {c : Nat} (h : U32 c) : U32 (stepC c) := by
  have := h.out
  unfold stepC U32
  split
  · exact xor32 (by omega) (by omega)
  · omega
theorem stepsC_32 (k : Nat) {c : Nat} (h : U32 c) : U32 (stepsC k c) := by
  induction k with
  | zero => exact h
  | succ k ih => exact stepC_32 ih
theorem byteC_32 {c : Nat} (h : U32 c) (b : UInt8) : U32 (byteC c b) := stepsC_32 8 (xor32 h.out (by have := UInt8.toNat_lt b; omega))
theorem foldC_32 (l : List UInt8) : ∀ {c : Nat}, U32 c → U32 (l.foldl byteC c) := by
  induction l with
  | nil => intro c h; exact h
  | cons b l ih => intro c h; exact ih (byteC_32 h b)
theorem crcS_32 (l : List UInt8) : U32 (crcS l) := foldC_32 l (by unfold U32; omega)
theorem crcL_32 (l : List UInt8) : U32 (crcL l) := by unfold crcL U32; omega

theorem xor_left {a b c : Nat} (h : a ^^^ b = a ^^^ c) : b = c := by
  have := congrArg (fun x => a ^^^ x) h
  simpa [← Nat.xor_assoc] using this
theorem xor_right {a b c : Nat} (h : b ^^^ a = c ^^^ a) : b = c := xor_left (a := a) (by rw [Nat.xor_comm a, Nat.xor_comm a]; exact h)

theorem top_bit (x : Nat) (h : x < 2147483648) : x.testBit 31 = false := Nat.testBit_lt_two_pow h

theorem stepC_inj {c d : Nat} (hc : U32 c) (hd : U32 d) (h : stepC c = stepC d) : c = d := by
  have hc := hc.out
  have hd := hd.out
  have tc := top_bit (c / 2) (by omega)
  have td := top_bit (d / 2) (by omega)
  have tp : (3988292384 : Nat).testBit 31 = true := by decide
  have tb := congrArg (fun x => x.testBit 31) h
  unfold stepC at h tb
  by_cases c1 : c % 2 = 1 <;> by_cases d1 : d % 2 = 1
  · rw [if_pos c1, if_pos d1] at h
    have := xor_right h
    omega
  · simp [c1, d1, Nat.testBit_xor, tc, td, tp] at tb
  · simp [c1, d1, Nat.testBit_xor, tc, td, tp] at tb
  · rw [if_neg c1, if_neg d1] at h
    omega

theorem stepsC_inj (k : Nat) {c d : Nat} (hc : U32 c) (hd : U32 d) (h : stepsC k c = stepsC k d) : c = d := by
  induction k with
  | zero => exact h
  | succ k ih => exact ih (stepC_inj (stepsC_32 k hc) (stepsC_32 k hd) h)

theorem byteC_inj {c d : Nat} (hc : U32 c) (hd : U32 d) (b : UInt8) (h : byteC c b = byteC d b) : c = d := by
  have hb := UInt8.toNat_lt b
  exact xor_right (stepsC_inj 8 (xor32 hc.out (by omega)) (xor32 hd.out (by omega)) h)

theorem byteC_ne {c : Nat} (hc : U32 c) {a b : UInt8} (h : a ≠ b) : byteC c a ≠ byteC c b := by
  intro e
  have ha := UInt8.toNat_lt a
  have hb := UInt8.toNat_lt b
  have := xor_left (stepsC_inj 8 (xor32 hc.out (by omega)) (xor32 hc.out (by omega)) e)
  exact h (UInt8.toNat_inj.1 this)

theorem foldC_inj (l : List UInt8) : ∀ {c d : Nat}, U32 c → U32 d → l.foldl byteC c = l.foldl byteC d → c = d := by
  induction l with
  | nil => intro c d _ _ h; exact h
  | cons b l ih => intro c d hc hd h; exact byteC_inj hc hd b (ih (byteC_32 hc b) (byteC_32 hd b) h)

/-- Where one byte is another one the checksum is another one. -/
theorem crcL_set {l : List UInt8} {i : Nat} (hi : i < l.length) {x : UInt8} (hx : x ≠ l[i]) : crcL (l.set i x) ≠ crcL l := by
  intro e
  have b1 := (crcS_32 (l.set i x)).out
  have b2 := (crcS_32 l).out
  have e2 : crcS (l.set i x) = crcS l := by unfold crcL at e; omega
  clear e b1 b2
  have e3 : l = l.take i ++ l[i] :: l.drop (i + 1) := by rw [List.getElem_cons_drop, List.take_append_drop]
  have e4 : l.set i x = l.take i ++ x :: l.drop (i + 1) := by rw [List.set_eq_take_append_cons_drop, if_pos hi]
  unfold crcS at e2
  rw [e4] at e2
  generalize l[i] = y at *
  generalize l.take i = p at *
  generalize l.drop (i + 1) = q at *
  subst e3
  rw [List.foldl_append, List.foldl_append] at e2
  have h0 : U32 (p.foldl byteC 4294967295) := foldC_32 p (by unfold U32; omega)
  exact byteC_ne h0 hx (foldC_inj q (byteC_32 h0 _) (byteC_32 h0 _) e2)

theorem crcS_take {l : List UInt8} {k : Nat} (h : k < l.length) : crcS (l.take (k + 1)) = byteC (crcS (l.take k)) l[k] := by
  rw [List.take_succ_eq_append_getElem h, crcS, List.foldl_append]; rfl

/-- The checksum's bytes. -/
def sumL (l : List UInt8) : List UInt8 := dig 4 (crcL l)
theorem sumL_len (l : List UInt8) : (sumL l).length = 4 := rfl
theorem sumL_fixed (l : List UInt8) : (fixedL (crcL l)).drop 4 = sumL l := rfl
theorem sumL_inj {l m : List UInt8} (h : sumL l = sumL m) : crcL l = crcL m := by
  have := (dig_less 4 (crcL l) (crcL m)).2.1 h
  have h1 := (crcL_32 l).out
  have h2 := (crcL_32 m).out
  rw [show (256 : Nat) ^ 4 = 4294967296 by decide, Nat.mod_eq_of_lt h1, Nat.mod_eq_of_lt h2] at this
  exact this

/-- A frame's bytes. -/
def frameL (l : List UInt8) : List UInt8 := putL l.length ++ (sumL l ++ l)
theorem frameL_len (l : List UInt8) : (frameL l).length = (putL l.length).length + 4 + l.length := by simp [frameL, sumL_len]; omega

/-- Is it a number that was cut off? -/
def isCut (l : List UInt8) : Bool := decide (l.length < 10) && l.all fun c => decide (128 ≤ c.toNat)

/-- What Next answers: the error, the content, what is left. -/
def nextL (l : List UInt8) : Nat × List UInt8 × List UInt8 :=
  if isCut l = true then (20, [], []) else
  match getL l with
  | none => (21, [], [])
  | some (n, k) =>
    if 1048576 < n then (21, [], []) else
    if (l.drop k).length < 4 + n then (20, [], []) else
    if (l.drop k).take 4 = sumL (((l.drop k).take (4 + n)).drop 4) then (0, ((l.drop k).take (4 + n)).drop 4, (l.drop k).drop (4 + n)) else (21, [], [])

theorem nextL_cut {l : List UInt8} (h : isCut l = true) : nextL l = (20, [], []) := by rw [nextL, if_pos h]
theorem nextL_none {l : List UInt8} (h : isCut l = false) (hg : getL l = none) : nextL l = (21, [], []) := by simp [nextL, h, hg]
theorem nextL_great {l : List UInt8} {n k : Nat} (h : isCut l = false) (hg : getL l = some (n, k)) (hn : 1048576 < n) : nextL l = (21, [], []) := by simp [nextL, h, hg, hn]
theorem nextL_short {l : List UInt8} {n k : Nat} (h : isCut l = false) (hg : getL l = some (n, k)) (hn : ¬ 1048576 < n) (hl : l.length - k < 4 + n) : nextL l = (20, [], []) := by
  simp only [nextL, h, hg]
  rw [if_neg (by simp), if_neg hn, if_pos (by simpa using hl)]
theorem nextL_wrong {l : List UInt8} {n k : Nat} (h : isCut l = false) (hg : getL l = some (n, k)) (hn : ¬ 1048576 < n) (hl : ¬ l.length - k < 4 + n) (hs : (l.drop k).take 4 ≠ sumL (((l.drop k).take (4 + n)).drop 4)) : nextL l = (21, [], []) := by
  simp only [nextL, h, hg]
  rw [if_neg (by simp), if_neg hn, if_neg (by simpa using hl), if_neg hs]
theorem nextL_ok {l : List UInt8} {n k : Nat} (h : isCut l = false) (hg : getL l = some (n, k)) (hn : ¬ 1048576 < n) (hl : ¬ l.length - k < 4 + n) (hs : (l.drop k).take 4 = sumL (((l.drop k).take (4 + n)).drop 4)) :
    nextL l = (0, ((l.drop k).take (4 + n)).drop 4, (l.drop k).drop (4 + n)) := by
  simp only [nextL, h, hg]
  rw [if_neg (by simp), if_neg hn, if_neg (by simpa using hl), if_pos hs]

theorem nextL_less {l : List UInt8} (h : (nextL l).1 = 0) : (nextL l).2.2.length + 5 ≤ l.length ∧ (nextL l).2.1.length ≤ l.length := by
  by_cases hc : isCut l = true
  · rw [nextL_cut hc] at h; cases h
  have hc : isCut l = false := by simpa using hc
  cases hg : getL l with
  | none => rw [nextL_none hc hg] at h; cases h
  | some p =>
    obtain ⟨n, k⟩ := p
    have hp := getL_pos hg
    by_cases hn : 1048576 < n
    · rw [nextL_great hc hg hn] at h; cases h
    by_cases hl : l.length - k < 4 + n
    · rw [nextL_short hc hg hn hl] at h; cases h
    by_cases hs : (l.drop k).take 4 = sumL (((l.drop k).take (4 + n)).drop 4)
    · rw [nextL_ok hc hg hn hl hs]
      simp; omega
    · rw [nextL_wrong hc hg hn hl hs] at h; cases h

/-- What Scan answers: the contents, what is left. -/
def scanL (l : List UInt8) : List (List UInt8) × List UInt8 :=
  if h : (nextL l).1 = 0 then ((nextL l).2.1 :: (scanL (nextL l).2.2).1, (scanL (nextL l).2.2).2) else ([], l)
termination_by l.length
decreasing_by all_goals (have := (nextL_less h).1; omega)

theorem scanL_ok {l a r : List UInt8} (h : nextL l = (0, a, r)) : scanL l = (a :: (scanL r).1, (scanL r).2) := by
  rw [scanL, dif_pos (by rw [h]), h]
theorem scanL_bad {l : List UInt8} (h : (nextL l).1 ≠ 0) : scanL l = ([], l) := by rw [scanL, dif_neg h]

theorem putL_high (k : Nat) : ∀ n : Nat, n < 128 ^ (k + 1) → ∀ j, j < (putL n).length - 1 → ∀ c, (putL n)[j]? = some c → 128 ≤ c.toNat := by
  induction k with
  | zero => intro n h; rw [putL_lt (by simpa using h)]; simp
  | succ k ih =>
    intro n h
    by_cases h1 : n < 128
    · rw [putL_lt h1]; simp
    · rw [putL_ge (by omega)]
      intro j hj c hc
      cases j with
      | zero =>
        simp only [List.getElem?_cons_zero, Option.some.injEq] at hc
        subst hc
        rw [u8_toNat (by omega)]; omega
      | succ j =>
        simp only [List.length_cons, Nat.add_one_sub_one] at hj
        rw [List.getElem?_cons_succ] at hc
        exact ih (n / 128) (by rw [Nat.pow_succ] at h; omega) j (by omega) c hc

theorem putL_low (k : Nat) : ∀ n : Nat, n < 128 ^ (k + 1) → ∃ c ∈ putL n, c.toNat < 128 := by
  induction k with
  | zero =>
    intro n h
    have h : n < 128 := by simpa using h
    exact ⟨UInt8.ofNat n, by rw [putL_lt h]; simp, by rw [u8_toNat (by omega)]; omega⟩
  | succ k ih =>
    intro n h
    by_cases h1 : n < 128
    · exact ⟨UInt8.ofNat n, by rw [putL_lt h1]; simp, by rw [u8_toNat (by omega)]; omega⟩
    · obtain ⟨c, hc, h2⟩ := ih (n / 128) (by rw [Nat.pow_succ] at h; omega)
      exact ⟨c, by rw [putL_ge (by omega)]; exact List.mem_cons_of_mem _ hc, h2⟩

theorem isCut_not {l : List UInt8} {c : UInt8} (h : c ∈ l) (hc : c.toNat < 128) : isCut l = false := by
  unfold isCut
  rw [Bool.and_eq_false_iff]
  right
  rw [List.all_eq_false]
  exact ⟨c, h, by simpa using hc⟩

theorem isCut_put {n : Nat} (hn : n ≤ 1048576) (r : List UInt8) : isCut (putL n ++ r) = false := by
  obtain ⟨c, hc, h⟩ := putL_low 9 n (by simp; omega)
  exact isCut_not (List.mem_append_left _ hc) h

theorem small64 {n : Nat} (hn : n ≤ 1048576) : U64 n := by unfold U64; omega

/-- What was wrapped comes back, whatever stands behind it. -/
theorem nextL_frame {l : List UInt8} (hl : l.length ≤ 1048576) (r : List UInt8) : nextL (frameL l ++ r) = (0, l, r) := by
  have e : frameL l ++ r = putL l.length ++ (sumL l ++ (l ++ r)) := by simp [frameL]
  rw [e]
  have hg := getL_of_put (small64 hl) (sumL l ++ (l ++ r))
  have hd : (putL l.length ++ (sumL l ++ (l ++ r))).drop (putL l.length).length = sumL l ++ (l ++ r) := by simp
  have h4 := sumL_len l
  have ht : (sumL l ++ (l ++ r)).take (4 + l.length) = sumL l ++ l := by
    rw [← List.append_assoc, List.take_left' (by simp [h4])]
  have hr : (sumL l ++ (l ++ r)).drop (4 + l.length) = r := by
    rw [← List.append_assoc, List.drop_left' (by simp [h4])]
  have := nextL_ok (isCut_put hl _) hg (by omega) (by simp [h4]) (by rw [hd, ht, List.take_left' h4, List.drop_left' h4])
  rw [this, hd, ht, hr, List.drop_left' h4]

/-- A frame that is cut short is told as short. -/
theorem nextL_part {l : List UInt8} (hl : l.length ≤ 1048576) {k : Nat} (hk : k < (frameL l).length) : nextL ((frameL l).take k) = (20, [], []) := by
  have hlen := frameL_len l
  have h10 := putL_len 2 l.length (by simp; omega)
  by_cases hc : k < (putL l.length).length
  · apply nextL_cut
    have e : (frameL l).take k = (putL l.length).take k := by rw [frameL, List.take_append_of_le_length (by omega)]
    rw [e]
    unfold isCut
    rw [Bool.and_eq_true, List.all_eq_true]
    refine ⟨by simp; omega, fun c hcm => ?_⟩
    obtain ⟨j, hj, rfl⟩ := List.getElem_of_mem hcm
    rw [List.length_take] at hj
    have := putL_high 9 l.length (by simp; omega) j (by omega) _ (List.getElem?_eq_getElem (by omega))
    simpa using this
  · have e : (frameL l).take k = putL l.length ++ (sumL l ++ l).take (k - (putL l.length).length) := by
      rw [frameL, List.take_append, List.take_of_length_le (by omega)]
    rw [e]
    refine nextL_short (isCut_put hl _) (getL_of_put (small64 hl) _) (by omega) ?_
    simp [sumL_len]
    omega

/-- A frame one of whose bytes behind its length is another one is refused. -/
theorem nextL_turned {l : List UInt8} (hl : l.length ≤ 1048576) {i : Nat} (hi : i < 4 + l.length) {x : UInt8} (hx : (sumL l ++ l)[i]? ≠ some x) :
    nextL ((frameL l).set ((putL l.length).length + i) x) = (21, [], []) := by
  have h4 := sumL_len l
  have e : (frameL l).set ((putL l.length).length + i) x = putL l.length ++ (sumL l ++ l).set i x := by
    rw [frameL, List.set_append_right _ _ (by omega), Nat.add_sub_cancel_left]
  rw [e]
  have hd : (putL l.length ++ (sumL l ++ l).set i x).drop (putL l.length).length = (sumL l ++ l).set i x := by simp
  refine nextL_wrong (isCut_put hl _) (getL_of_put (small64 hl) _) (by omega) (by simp [h4]) ?_
  rw [hd]
  have ht : ((sumL l ++ l).set i x).take (4 + l.length) = (sumL l ++ l).set i x := List.take_of_length_le (by simp [h4])
  rw [ht]
  by_cases h : i < 4
  · rw [List.set_append_left _ _ (by omega), List.take_left' (by simp [h4]), List.drop_left' (by simp [h4])]
    intro e2
    apply hx
    rw [List.getElem?_append_left (by omega), ← e2, List.getElem?_set_self (by omega)]
  · rw [List.set_append_right _ _ (by omega), List.take_left' h4, List.drop_left' h4]
    intro e2
    have hi2 : i - 4 < l.length := by omega
    rw [h4] at e2
    refine crcL_set hi2 (x := x) ?_ (sumL_inj e2).symm
    intro e3
    apply hx
    rw [List.getElem?_append_right (by omega), h4, List.getElem?_eq_getElem hi2, e3]

/-- Frames, one behind the other. -/
def framesL (ls : List (List UInt8)) : List UInt8 := ls.flatMap frameL
theorem framesL_cons (l : List UInt8) (ls : List (List UInt8)) : framesL (l :: ls) = frameL l ++ framesL ls := rfl
theorem framesL_take {ls : List (List UInt8)} {k : Nat} (h : k < ls.length) : framesL (ls.take (k + 1)) = framesL (ls.take k) ++ frameL ls[k] := by
  rw [List.take_succ_eq_append_getElem h, framesL, framesL, List.flatMap_append]; simp only [List.flatMap_cons, List.flatMap_nil, List.append_nil]

theorem nextL_nil : nextL [] = (20, [], []) := nextL_cut rfl

theorem scanL_frames {ls : List (List UInt8)} (h : ∀ l ∈ ls, l.length ≤ 1048576) (r : List UInt8) (hr : (nextL r).1 ≠ 0) : scanL (framesL ls ++ r) = (ls, r) := by
  induction ls with
  | nil => exact scanL_bad hr
  | cons l ls ih =>
    rw [framesL_cons, List.append_assoc, scanL_ok (nextL_frame (h l (by simp)) _), ih fun m hm => h m (by simp [hm])]

/-- Frames, cut at a place: k of them are whole. -/
theorem scanL_part {ls : List (List UInt8)} (h : ∀ l ∈ ls, l.length ≤ 1048576) {k cut : Nat} (hk : k ≤ ls.length) (h1 : (framesL (ls.take k)).length ≤ cut)
    (h2 : ∀ hlt : k < ls.length, cut < (framesL (ls.take (k + 1))).length) (h3 : cut ≤ (framesL ls).length) :
    scanL ((framesL ls).take cut) = (ls.take k, (framesL ls).take cut |>.drop (framesL (ls.take k)).length) ∧ ((framesL ls).take cut |>.drop (framesL (ls.take k)).length).length + (framesL (ls.take k)).length = cut := by
  have e : framesL ls = framesL (ls.take k) ++ framesL (ls.drop k) := by rw [framesL, framesL, framesL, ← List.flatMap_append, List.take_append_drop]
  have e2 : (framesL ls).take cut = framesL (ls.take k) ++ (framesL (ls.drop k)).take (cut - (framesL (ls.take k)).length) := by
    rw [e, List.take_append, List.take_of_length_le h1]
  refine ⟨?_, ?_⟩
  · rw [e2, List.drop_left]
    refine scanL_frames (fun l hl => h l (List.mem_of_mem_take hl)) _ ?_
    by_cases hlt : k < ls.length
    · have h2 := h2 hlt
      rw [framesL_take hlt, List.length_append] at h2
      rw [List.drop_eq_getElem_cons hlt, framesL_cons, List.take_append_of_le_length (by omega), nextL_part (h _ (List.getElem_mem _)) (by omega)]
      simp
    · rw [List.drop_eq_nil_of_le (by omega)]
      simp [framesL, nextL_nil]
  · rw [List.length_drop, List.length_take]; omega

theorem frameL_le {l : List UInt8} (hl : l.length ≤ 1048576) : (frameL l).length ≤ l.length + 14 := by
  rw [frameL_len]
  have := putL_len10 (small64 hl)
  omega

end Go.Proofs.Ytlakemcbfeogkaa

namespace Go.Proofs.Ytlakemcbfeogkaa
open Go.RowKit
set_option linter.unusedVariables false

theorem ownsRow_below {w w' : World} {base : Nat} {e : TypeId} {size : Nat} {v : Value} {n : Nat} {xs : List Value} (h : w.ownsRow base e size v n xs) (hb : Below w.heap.size w w') : w'.ownsRow base e size v n xs :=
  h.kept (grownBy_below none hb) (by cases v.ownBlock <;> simp)

/-- A text as a value. -/
def tx (l : List UInt8) : Value := .string ⟨l.toArray⟩
theorem tx_data (s : ByteArray) : tx s.data.toList = .string s := by unfold tx; congr 1

/-- Scan under way: 'done' is collected, t is left. -/
structure ScanRel (s : ByteArray) (done : List (List UInt8)) (t : ByteArray) : Prop where
  all : scanL s.data.toList = (done ++ (scanL t.data.toList).1, (scanL t.data.toList).2)
  len : 5 * done.length + t.size ≤ s.size

theorem ScanRel.start (s : ByteArray) : ScanRel s [] s := ⟨by simp, by simp⟩

theorem ScanRel.next {s t a r : ByteArray} {done : List (List UInt8)} (h : ScanRel s done t) (hn : nextL t.data.toList = (0, a.data.toList, r.data.toList)) :
    ScanRel s (done ++ [a.data.toList]) r ∧ r.size < t.size := by
  have hl := (nextL_less (l := t.data.toList) (by rw [hn])).1
  rw [hn] at hl
  simp only [Array.length_toList] at hl
  have e1 : r.data.size = r.size := rfl
  have e2 : t.data.size = t.size := rfl
  have := h.len
  refine ⟨⟨?_, ?_⟩, by omega⟩
  · rw [h.all, scanL_ok hn]; simp
  · rw [List.length_append, List.length_singleton]; omega

theorem ScanRel.stop {s t : ByteArray} {done : List (List UInt8)} {k : Nat} (h : ScanRel s done t) (hk : k = 20 ∨ k = 21) (hn : nextL t.data.toList = (k, [], [])) :
    (scanL s.data.toList).1 = done ∧ (scanL s.data.toList).2.length = t.size := by
  have := scanL_bad (l := t.data.toList) (by rw [hn]; simp; omega)
  rw [h.all, this]
  simp

end Go.Proofs.Ytlakemcbfeogkaa

namespace Go.Proofs.Ytlakemcbfeogkaa
open Go.RowKit
set_option linter.unusedVariables false

/-- The texts as lists of bytes. -/
def bytesOf (ss : List ByteArray) : List (List UInt8) := ss.map fun s => s.data.toList
theorem bytesOf_len (ss : List ByteArray) : (bytesOf ss).length = ss.length := by simp [bytesOf]
theorem bytesOf_at {ss : List ByteArray} {k : Nat} (h : k < ss.length) : (bytesOf ss)[k]'(by rw [bytesOf_len]; exact h) = ss[k].data.toList := by simp [bytesOf]
theorem bytesOf_getD {ss : List ByteArray} {k : Nat} (h : k < ss.length) : tx ((bytesOf ss).getD k []) = .string (ss.getD k ByteArray.empty) := by
  simp only [List.getD]
  rw [List.getElem?_eq_getElem (by rw [bytesOf_len]; exact h), List.getElem?_eq_getElem h, Option.getD_some, Option.getD_some, bytesOf_at h, tx_data]

theorem bytesOf_small {ss : List ByteArray} (h : sizes ss ≤ 1048576) : ∀ l ∈ bytesOf ss, l.length ≤ 1048576 := by
  intro l hl
  unfold bytesOf at hl
  rw [List.mem_map] at hl
  obtain ⟨s, hs, rfl⟩ := hl
  have := size_le_sizes hs
  have e : s.data.toList.length = s.size := by simp
  omega

theorem sizes_append (a b : List ByteArray) : sizes (a ++ b) = sizes a + sizes b := by simp [sizes]
theorem sizes_take {ss : List ByteArray} {k : Nat} (h : k < ss.length) : sizes (ss.take (k + 1)) = sizes (ss.take k) + ss[k].size := by
  rw [List.take_succ_eq_append_getElem h, sizes_append, sizes_cons]; simp [sizes]
theorem sizes_mono (ss : List ByteArray) (k : Nat) : sizes (ss.take k) ≤ sizes ss := by
  have : sizes ss = sizes (ss.take k) + sizes (ss.drop k) := by rw [← sizes_append, List.take_append_drop]
  omega

/-- Where the k-th frame begins. -/
def endL (ls : List (List UInt8)) (k : Nat) : Nat := (framesL (ls.take k)).length

theorem endL_all (ls : List (List UInt8)) : endL ls ls.length = (framesL ls).length := by rw [endL, List.take_length]
theorem endL_zero (ls : List (List UInt8)) : endL ls 0 = 0 := rfl
theorem endL_next {ls : List (List UInt8)} {k : Nat} (h : k < ls.length) : endL ls (k + 1) = endL ls k + (frameL ls[k]).length := by
  rw [endL, endL, framesL_take h, List.length_append]

theorem endL_le {ss : List ByteArray} (h : sizes ss ≤ 1048576) : ∀ k, k ≤ ss.length → endL (bytesOf ss) k ≤ sizes ss + 14 * ss.length := by
  have key : ∀ ss : List ByteArray, sizes ss ≤ 1048576 → (framesL (bytesOf ss)).length ≤ sizes ss + 14 * ss.length := by
    intro ss
    induction ss with
    | nil => intro _; simp [bytesOf, framesL]
    | cons s r ih =>
      intro h
      rw [sizes_cons] at h
      have h1 := ih (by omega)
      have h2 := frameL_le (l := s.data.toList) (by simp; show s.size ≤ _; omega)
      have e : s.data.toList.length = s.size := by simp
      rw [show bytesOf (s :: r) = s.data.toList :: bytesOf r from rfl, framesL_cons, List.length_append, sizes_cons, List.length_cons]
      omega
  intro k hk
  have h1 := key ss h
  have e : framesL (bytesOf ss) = framesL ((bytesOf ss).take k) ++ framesL ((bytesOf ss).drop k) := by rw [framesL, framesL, framesL, ← List.flatMap_append, List.take_append_drop]
  rw [e, List.length_append] at h1
  unfold endL
  omega

/-- The frames' ends. -/
def endsL (ls : List (List UInt8)) (k : Nat) : List Value := (List.range k).map fun j => .int .i64 (endL ls (j + 1) : Nat)
theorem endsL_len (ls : List (List UInt8)) (k : Nat) : (endsL ls k).length = k := by simp [endsL]
theorem endsL_next (ls : List (List UInt8)) (k : Nat) : endsL ls (k + 1) = endsL ls k ++ [.int .i64 (endL ls (k + 1) : Nat)] := by
  rw [endsL, List.range_succ, List.map_append]; rfl

theorem scan_all {ss : List ByteArray} (h : sizes ss ≤ 1048576) : scanL (framesL (bytesOf ss)) = (bytesOf ss, []) := by
  have := scanL_frames (bytesOf_small h) [] (by rw [nextL_nil]; simp)
  rw [List.append_nil] at this
  exact this

theorem scan_cut {ss : List ByteArray} (h : sizes ss ≤ 1048576) {k cut : Nat} (hk : k ≤ ss.length) (h1 : endL (bytesOf ss) k ≤ cut) (h2 : k < ss.length → cut < endL (bytesOf ss) (k + 1)) (h3 : cut ≤ (framesL (bytesOf ss)).length) :
    (scanL ((framesL (bytesOf ss)).take cut)).1 = (bytesOf ss).take k ∧ (scanL ((framesL (bytesOf ss)).take cut)).2.length + endL (bytesOf ss) k = cut := by
  have := scanL_part (bytesOf_small h) (k := k) (cut := cut) (by rw [bytesOf_len]; exact hk) h1 (by rw [bytesOf_len]; exact h2) h3
  rw [this.1]
  exact ⟨rfl, this.2⟩

end Go.Proofs.Ytlakemcbfeogkaa

namespace Go.Proofs.Ytlakemcbfeogkaa
open Go.RowKit
set_option linter.unusedVariables false

theorem step_walk {c : Nat} (h : U32 c) : bits .xor .u32 ((c : Int) / 2) (bits .and .u32 3988292384 (-bits .and .u32 (c : Int) 1 % 4294967296)) = (stepC c : Nat) := by
  have hc := h.out
  have e1 : bits .and .u32 (c : Int) 1 = ((c % 2 : Nat) : Int) := by
    have := u32_and_nat c 1 hc (by omega)
    rw [Nat.and_one_is_mod] at this
    exact this
  have e2 : ((c : Int) / 2) = ((c / 2 : Nat) : Int) := by simp
  rw [e1, e2]
  unfold stepC
  by_cases h1 : c % 2 = 1
  · rw [if_pos h1, h1, show bits .and .u32 3988292384 (-((1 : Nat) : Int) % 4294967296) = ((3988292384 : Nat) : Int) from by decide, u32_xor_nat _ _ (by omega) (by omega)]
  · rw [if_neg h1, show c % 2 = 0 by omega, show bits .and .u32 3988292384 (-((0 : Nat) : Int) % 4294967296) = ((0 : Nat) : Int) from by decide, u32_xor_nat _ _ (by omega) (by omega), Nat.xor_zero]

set_option maxHeartbeats 400000 in
set_option maxRecDepth 100000 in
theorem shift_any (c : Nat) (h : U32 c) (w : World) :
    Calls Try.prog 90 #[.int .u32 (c : Int)] w fun e w' => e = .returned (.int .u32 (stepsC 8 c : Nat)) ∧ w = w' := by
  go_enter Try.func90, Try.ntmps90
  go_wp2
  go_loop [0, 3] (fun c' i => ∃ (k : Nat), k ≤ 8 ∧ i = .int .i64 (k : Int) ∧ c' = .int .u32 (stepsC k c : Nat)) (fun _ i => 8 - (intOf i).toNat)
  case atStart => exact ⟨0, by omega, rfl, rfl⟩
  case round =>
    obtain ⟨k, hk, rfl, rfl⟩ := hrel
    by_cases hlt : k < 8
    · have hs := Lib.hid (step_walk (stepsC_32 k h))
      have hb := (stepsC_32 k h).out
      go_wp2
      go_round
      case rel => exact ⟨k + 1, by omega, by go_num, by rw [hs.out]; rfl⟩
      case measure => simp [intOf]; omega
    · obtain rfl : k = 8 := by omega
      go_wp2
      go_ret
      exact ⟨rfl, rfl⟩

theorem not32 {c : Nat} (h : U32 c) : bits .xor .u32 IntKind.u32.max (c : Int) = ((4294967295 - c : Nat) : Int) := by
  have hc := h.out
  show IntKind.u32.wrap ((BitVec.ofInt 32 IntKind.u32.max ^^^ BitVec.ofInt 32 (c : Int)).toNat : Int) = _
  rw [show BitVec.ofInt 32 IntKind.u32.max = BitVec.allOnes 32 from by decide, BitVec.allOnes_xor, BitVec.toNat_not, ofInt_u32 c hc, IntKind.wrap_u32]
  omega

theorem take_all (s : ByteArray) : s.data.toList.take s.size = s.data.toList := List.take_of_length_le (by simp)

theorem sum_not (s : ByteArray) : bits .xor .u32 IntKind.u32.max (crcS (s.data.toList.take s.size) : Int) = (crcL s.data.toList : Nat) := by
  rw [take_all]; exact not32 (crcS_32 _)

theorem sum_sub (s : ByteArray) : (4294967295 - (crcS (s.data.toList.take s.size) : Int)) = (crcL s.data.toList : Nat) := by
  have := (crcS_32 s.data.toList).out
  rw [take_all, crcL]; omega

set_option maxHeartbeats 400000 in
set_option maxRecDepth 100000 in
theorem sum_any (s : ByteArray) (hs : s.size ≤ maxLen) (w : World) :
    Calls Try.prog 72 #[.string s] w fun e w' => e = .returned (.int .u32 (crcL s.data.toList : Nat)) ∧ w = w' := by
  unfold maxLen at hs
  have h32 := crcS_32
  go_enter Try.func72, Try.ntmps72
  go_wp2
  go_loop [3, 7] (fun c i => ∃ (k : Nat), k ≤ s.size ∧ i = .int .i64 (k : Int) ∧ c = .int .u32 (crcS (s.data.toList.take k) : Nat)) (fun _ i => s.size - (intOf i).toNat)
  case atStart => exact ⟨0, by omega, rfl, rfl⟩
  case round =>
    obtain ⟨k, hk, rfl, rfl⟩ := hrel
    by_cases hlt : k < s.size
    · have hx := Lib.hid (crcS_take (l := s.data.toList) (k := k) (by simpa using hlt))
      have hb := Lib.hid (h32 (s.data.toList.take k))
      have hc := UInt8.toNat_lt s[k]
      have he : bits .xor .u32 (crcS (s.data.toList.take k) : Int) (s[k].toNat : Int) = ((crcS (s.data.toList.take k) ^^^ s[k].toNat : Nat) : Int) := u32_xor_nat _ _ hb.out.out (by omega)
      have hu : U32 (crcS (s.data.toList.take k) ^^^ s[k].toNat) := xor32 hb.out.out (by omega)
      go_wp2_with fail
      refine (shift_any _ hu _).mono ?_
      rintro e w' ⟨rfl, rfl⟩
      go_wp2
      go_round
      case rel => exact ⟨k + 1, by omega, by go_num, by rw [hx.out]; rfl⟩
      case measure => simp [intOf]; omega
    · obtain rfl : k = s.size := by omega
      have hn := Lib.hid (sum_not s)
      go_wp2
      go_ret
      exact ⟨by rw [← hn.out]; rfl, rfl⟩
end Go.Proofs.Ytlakemcbfeogkaa

namespace Go.Proofs.Ytlakemcbfeogkaa
open Go.RowKit
set_option linter.unusedVariables false

theorem sum_text (s : ByteArray) : (⟨(fixedL (crcL s.data.toList)).toArray⟩ : ByteArray).extract 4 8 = ⟨(sumL s.data.toList).toArray⟩ := by
  apply ByteArray.ext
  apply Array.toList_inj.1
  rw [Lib.extract_data]
  show ((fixedL (crcL s.data.toList)).drop 4).take 4 = sumL s.data.toList
  rw [sumL_fixed, List.take_of_length_le (by rw [sumL_len]; omega)]

set_option maxHeartbeats 400000 in
set_option maxRecDepth 100000 in
theorem sumText_any (s : ByteArray) (hs : s.size ≤ maxLen) (w : World) :
    Calls Try.prog 49 #[.string s] w fun e w' => e = .returned (.string ⟨(sumL s.data.toList).toArray⟩) ∧ Below w.heap.size w w' := by
  have hx := Lib.hid (sum_text s)
  have hw : IntKind.u64.wrap (crcL s.data.toList : Int) = (crcL s.data.toList : Nat) := by
    have := (crcL_32 s.data.toList).out
    exact IntWalk.u64_in _ ⟨by omega, by omega⟩
  have hl := fixedL_len (crcL s.data.toList)
  have h64 := (crcL_32 s.data.toList).u64
  go_enter Try.func49, Try.ntmps49
  go_wp2_with fail
  refine (sum_any _ hs _).mono ?_
  rintro e w' ⟨rfl, rfl⟩
  go_wp2_with fail
  refine (fixed_any _ h64 _).mono ?_
  rintro e w1 ⟨rfl, hb1⟩
  go_wp2
  go_ret
  exact ⟨by rw [← hx.out]; rfl, hb1⟩

theorem wrap_text (s : ByteArray) : (⟨(putL s.size).toArray⟩ ++ ⟨(sumL s.data.toList).toArray⟩ ++ s : ByteArray) = ⟨(frameL s.data.toList).toArray⟩ := by
  apply ByteArray.ext
  apply Array.toList_inj.1
  simp [frameL]

set_option maxHeartbeats 400000 in
set_option maxRecDepth 100000 in
theorem wrap_any (s : ByteArray) (hs : s.size ≤ 1048576) (w : World) :
    Calls Try.prog 21 #[.string s] w fun e w' => e = .returned (.tuple #[.string ⟨(frameL s.data.toList).toArray⟩, .int .i64 0]) ∧ Below w.heap.size w w' := by
  have hx := Lib.hid (wrap_text s)
  have hl := putL_len10 (small64 hs)
  have h4 := sumL_len s.data.toList
  have h64 := small64 hs
  go_enter Try.func21, Try.ntmps21
  go_wp2_with fail
  refine (put_any _ h64 _).mono ?_
  rintro e w1 ⟨rfl, hb1⟩
  go_wp2_with fail
  refine (sumText_any _ (by unfold maxLen; omega) _).mono ?_
  rintro e w2 ⟨rfl, hb2⟩
  go_wp2
  go_ret2
  exact ⟨by rw [← hx.out]; rfl, below_next hb1 (Nat.le_refl _) hb2⟩

set_option maxHeartbeats 400000 in
set_option maxRecDepth 100000 in
theorem wrap_long (s : ByteArray) (hs : ¬ s.size ≤ 1048576) (w : World) :
    Calls Try.prog 21 #[.string s] w fun e w' => e = .returned (.tuple #[.string ⟨#[]⟩, .int .i64 2]) ∧ w = w' := by
  go_enter Try.func21, Try.ntmps21
  go_wp2
  go_ret2
  exact ⟨rfl, rfl⟩

/-- Are the bytes ahead of k all 128 or more? -/
def highTo (l : List UInt8) (k : Nat) : Bool := (l.take k).all fun c => decide (128 ≤ c.toNat)

theorem highTo_zero (l : List UInt8) : highTo l 0 = true := rfl

theorem highTo_next {l : List UInt8} {k : Nat} (h : k < l.length) : highTo l (k + 1) = (highTo l k && decide (128 ≤ l[k].toNat)) := by
  unfold highTo
  rw [List.take_succ_eq_append_getElem h, List.all_append]
  simp

theorem isCut_high {l : List UInt8} (h : l.length < 10) : isCut l = highTo l l.length := by
  unfold isCut highTo
  rw [List.take_length, decide_eq_true h, Bool.true_and]

theorem isCut_long {l : List UInt8} (h : ¬ l.length < 10) : isCut l = false := by
  unfold isCut
  rw [decide_eq_false h, Bool.false_and]

theorem isCut_low {l : List UInt8} {k : Nat} (h : k < l.length) (hc : l[k].toNat < 128) : isCut l = false := isCut_not (List.getElem_mem h) hc

set_option maxHeartbeats 400000 in
set_option maxRecDepth 100000 in
theorem cut_any (s : ByteArray) (hs : s.size ≤ maxLen) (w : World) :
    Calls Try.prog 79 #[.string s] w fun e w' => e = .returned (.bool (isCut s.data.toList)) ∧ w = w' := by
  unfold maxLen at hs
  have hlen : s.data.toList.length = s.size := by simp
  by_cases h10 : s.size < 10
  · have hc := Lib.hid (isCut_high (l := s.data.toList) (by omega))
    clear hlen
    go_enter Try.func79, Try.ntmps79
    go_wp2
    go_loop [9] (fun i => ∃ (k : Nat), k ≤ s.size ∧ i = .int .i64 (k : Int) ∧ Hid (highTo s.data.toList k = true)) (fun i => s.size - (intOf i).toNat)
    case atStart => exact ⟨0, by omega, rfl, rfl⟩
    case round =>
      obtain ⟨k, hk, rfl, hh⟩ := hrel
      by_cases hlt : k < s.size
      · by_cases h128 : s[k].toNat < 128
        · have hf := Lib.hid (isCut_low (l := s.data.toList) (k := k) (by simpa using hlt) h128)
          go_wp2
          go_ret
          exact ⟨by rw [hf.out]; rfl, rfl⟩
        · have hn : Hid (highTo s.data.toList (k + 1) = true) := by
            show _ = _
            rw [highTo_next (by simpa using hlt), hh.out, Bool.true_and]
            exact decide_eq_true (by show 128 ≤ s[k].toNat; omega)
          go_wp2
          go_round
          case rel => exact ⟨k + 1, by omega, by go_num, hn⟩
          case measure => simp [intOf]; omega
      · obtain rfl : k = s.size := by omega
        have hf : Hid (isCut s.data.toList = true) := by
          show _ = _
          rw [hc.out, Array.length_toList]; exact hh.out
        go_wp2
        go_ret
        exact ⟨by rw [hf.out]; rfl, rfl⟩
  · have hf := Lib.hid (isCut_long (l := s.data.toList) (by omega))
    clear hlen
    go_enter Try.func79, Try.ntmps79
    go_wp2
    go_ret
    exact ⟨by rw [hf.out]; rfl, rfl⟩
end Go.Proofs.Ytlakemcbfeogkaa

namespace Go.Proofs.Ytlakemcbfeogkaa
open Go.RowKit
set_option linter.unusedVariables false

/-- How Next ends. -/
def NextEnd (s : ByteArray) (e : Ending) : Prop :=
  (∃ a r : ByteArray, nextL s.data.toList = (0, a.data.toList, r.data.toList) ∧ e = .returned (.tuple #[.string a, .string r, .int .i64 0])) ∨
  (∃ k : Nat, (k = 20 ∨ k = 21) ∧ nextL s.data.toList = (k, [], []) ∧ e = .returned (.tuple #[.string ⟨#[]⟩, .string ⟨#[]⟩, .int .i64 (k : Int)]))

theorem next_bad {s : ByteArray} {k : Nat} (hk : k = 20 ∨ k = 21) (h : nextL s.data.toList = (k, [], [])) : NextEnd s (.returned (.tuple #[.string ⟨#[]⟩, .string ⟨#[]⟩, .int .i64 (k : Int)])) := .inr ⟨k, hk, h, rfl⟩

theorem ext_data (t : ByteArray) (i j : Nat) : (t.extract i j).data.toList = (t.data.toList.take j).drop i := by
  rw [Lib.extract_data, List.drop_take]

set_option maxHeartbeats 1000000 in
set_option maxRecDepth 100000 in
theorem next_any (s : ByteArray) (hs : s.size ≤ 140737488355328) (w : World) :
    Calls Try.prog 56 #[.string s] w fun e w' => NextEnd s e ∧ Below w.heap.size w w' := by
  by_cases hc : isCut s.data.toList = true
  · have H := next_bad (.inl rfl) (nextL_cut hc)
    go_enter Try.func56, Try.ntmps56
    go_wp2_with fail
    refine (cut_any _ (by unfold maxLen; omega) _).mono ?_
    rintro e w' ⟨rfl, rfl⟩
    go_wp2
    go_ret3
    exact ⟨H, Below.refl _ _⟩
  · have hc : isCut s.data.toList = false := by simpa using hc
    have HC := Lib.hid hc
    go_enter Try.func56, Try.ntmps56
    go_wp2_with fail
    refine (cut_any _ (by unfold maxLen; omega) _).mono ?_
    rintro e w' ⟨rfl, rfl⟩
    go_wp2_with fail
    refine (get_any _ (by unfold maxLen; omega) _).mono ?_
    rintro e w1 ⟨he, nq, rfl⟩
    have hb1 : Below w.heap.size w (w.drewN nq) := below_drewN (Below.refl _ w) nq
    rcases he with ⟨n, k, t, hg, ht, rfl⟩ | ⟨hg, rfl⟩
    · have hts := congrArg List.length ht
      have hk := getL_pos hg
      rw [List.length_drop] at hts
      simp only [Array.length_toList] at hts hk
      by_cases hn : 1048576 < n
      · have H := next_bad (.inr rfl) (nextL_great hc hg hn)
        clear hc hg ht hts hk
        have hd : decide ((1048576 : Int) < (n : Int)) = true := by simp; omega
        go_wp2
        go_ret3
        exact ⟨H, hb1⟩
      · have hd : decide ((1048576 : Int) < (n : Int)) = false := by simp; omega
        have hw : IntKind.i64.wrap (n : Int) = (n : Int) := IntWalk.i64_in _ ⟨by omega, by omega⟩
        have e1 : s.data.size = s.size := rfl
        have e2 : t.data.size = t.size := rfl
        by_cases hl : t.size < 4 + n
        · have H := next_bad (.inl rfl) (nextL_short hc hg hn (by rw [Array.length_toList]; omega))
          clear hc hg ht hts hk
          go_wp2
          go_ret3
          exact ⟨H, hb1⟩
        · have hct : (t.extract 4 (4 + n)).data.toList = ((s.data.toList.drop k).take (4 + n)).drop 4 := by rw [ext_data, ht]
          have hcs : (t.extract 4 (4 + n)).size ≤ 140737488355328 := by
            have := congrArg List.length hct
            simp only [Array.length_toList, List.length_drop, List.length_take] at this
            show (t.extract 4 (4 + n)).data.size ≤ _
            omega
          have h4 : (t.extract 0 4).data.toList = (s.data.toList.drop k).take 4 := by rw [ext_data, ht]; simp
          have hnl : ¬ s.data.toList.length - k < 4 + n := by rw [Array.length_toList]; omega
          have q1 : ((4 : Int) + (n : Int)).toNat = 4 + n := by omega
          have q2 : (0 : Int) ≤ 4 + (n : Int) := by omega
          have q3 : (4 : Int) + (n : Int) ≤ (t.size : Int) := by omega
          have q4 : 4 + n ≤ t.size := by omega
          have q5 : (4 : Int) ≤ 4 + (n : Int) := by omega
          have q6 : 4 ≤ 4 + n := by omega
          have q7 : 4 ≤ t.size := by omega
          have q8 : (4 : Int) ≤ (t.size : Int) := by omega
          have hsp : sumL (List.take n (List.drop 4 t.data.toList)) = sumL (((s.data.toList.drop k).take (4 + n)).drop 4) := by
            rw [ht, List.drop_take]; congr 2; omega
          by_cases hsum : (s.data.toList.drop k).take 4 = sumL (((s.data.toList.drop k).take (4 + n)).drop 4)
          · have HN : NextEnd s (.returned (.tuple #[.string (t.extract 4 (4 + n)), .string (t.extract (4 + n) t.size), .int .i64 0])) := by
              refine .inl ⟨_, _, ?_, rfl⟩
              rw [nextL_ok hc hg hn hnl hsum, hct, extract_drop, ht]
            have hcmp : ((t.extract 0 4).toList == sumL (List.take n (List.drop 4 t.data.toList))) = true := by
              rw [Lib.toList_data, h4, hsp, hsum]; exact beq_self_eq_true _
            clear hc hg ht hts hk hsum h4 hct hnl hsp
            go_wp2_with fail
            go_region_with (go_at_call 49; refine (sumText_any _ (by unfold maxLen; omega) _).mono ?_; rintro e w2 ⟨rfl, hb2⟩)
            all_goals go_wp2
            all_goals go_quiet (fail)
            all_goals go_wp2
            all_goals go_ret3
            all_goals exact ⟨HN, below_drewN ((below_drewN (Below.refl _ w) _).trans hb2) _⟩
          · have HN := next_bad (.inr rfl) (nextL_wrong hc hg hn hnl hsum)
            have hcmp : ((t.extract 0 4).toList == sumL (List.take n (List.drop 4 t.data.toList))) = false := by
              rw [Lib.toList_data, h4, hsp]; simpa using hsum
            clear hc hg ht hts hk hsum h4 hct hnl hsp
            go_wp2_with fail
            go_region_with (go_at_call 49; refine (sumText_any _ (by unfold maxLen; omega) _).mono ?_; rintro e w2 ⟨rfl, hb2⟩)
            all_goals go_wp2
            all_goals go_ret3
            all_goals exact ⟨HN, (below_drewN (Below.refl _ w) _).trans hb2⟩
    · have H := next_bad (.inr rfl) (nextL_none hc hg)
      clear hc hg
      go_wp2
      go_ret3
      exact ⟨H, hb1⟩
end Go.Proofs.Ytlakemcbfeogkaa

namespace Go.Proofs.Ytlakemcbfeogkaa
open Go.RowKit
set_option linter.unusedVariables false

theorem infoStr : (Try.prog.info? 9).map (fun i => (i.zero, i.size, i.bytes)) = some (some (.string ⟨#[]⟩), 1, 16) := by kernel_rfl

/-- How Scan ends. -/
def ScanEnd (w : World) (s : ByteArray) (e : Ending) (w' : World) : Prop :=
  ∃ v, e = .returned (.tuple #[v, .int .i64 ((s.size : Int) - ((scanL s.data.toList).2.length : Int))]) ∧
    w'.ownsRow w.heap.size 9 1 v (scanL s.data.toList).1.length ((scanL s.data.toList).1.map tx) ∧ Below w.heap.size w w'

theorem scan_end {w w' : World} {s t : ByteArray} {done : List (List UInt8)} {k : Nat} {v : Value} (h : ScanRel s done t) (hk : k = 20 ∨ k = 21) (hn : nextL t.data.toList = (k, [], []))
    (ho : w'.ownsRow w.heap.size 9 1 v done.length (done.map tx)) (hb : Below w.heap.size w w') :
    ScanEnd w s (.returned (.tuple #[v, .int .i64 ((s.size : Int) - (t.size : Int))])) w' := by
  obtain ⟨h1, h2⟩ := h.stop hk hn
  exact ⟨v, by rw [h2], by rw [h1]; exact ho, hb⟩

theorem one_str (s : ByteArray) : ∀ u ∈ [Value.string s], u.oneCell' = true := by intro u hu; simp at hu; subst hu; rfl

/-- What is left, as a number. -/
def leftOf (a : Act) : Nat := match a.tmps.getD 5 undef with | .string t => t.size | _ => 0

/-- What holds at each jump. -/
def ScanAt (w : World) (s : ByteArray) (a : Act) (wr : World) : Prop :=
  ∃ (t : ByteArray) (done : List (List UInt8)) (v u6 u7 u8 u9 u10 u11 u12 u13 u14 u15 u16 u17 u18 u19 u20 u21 u22 : Value), a = { tmps := #[.string s, undef, .slice none 0 0, .int .i64 0, v, .string t, u6, u7, u8, u9, u10, u11, u12, u13, u14, u15, u16, u17, u18, u19, u20, u21, u22, undef, undef, undef, undef, undef, undef], defers := [] } ∧
    ScanRel s done t ∧ wr.ownsRow w.heap.size 9 1 v done.length (done.map tx) ∧ Below w.heap.size w wr

set_option maxHeartbeats 1000000 in
set_option maxRecDepth 100000 in
theorem scan_any (s : ByteArray) (hs : s.size ≤ 1099511627776) (w : World) :
    Calls Try.prog 34 #[.string s] w fun e w' => ScanEnd w s e w' := by
  obtain ⟨i0, hi, hz0, hz1, hz2⟩ := info_parts infoStr
  go_enter Try.func34, Try.ntmps34
  go_wp2
  refine wp_scope_jumps 0 (ScanAt w s) (fun a' _ => leftOf a') rfl ?_ ?_
  · go_wp2
    go_step3
    have hz : ScanRel s [] s ∧ w.ownsRow w.heap.size 9 1 (.slice none 0 0) ([] : List (List UInt8)).length (([] : List (List UInt8)).map tx) ∧ Below w.heap.size w w := ⟨ScanRel.start s, World.ownsRow_nil _ _ _ _, Below.refl _ _⟩
    obtain ⟨hr, hown, hb⟩ := hz
    have hlen := hr.len
    have hsz := hb.size
    go_wp2_with fail
    refine (next_any _ (by omega) _).mono ?_
    rintro e w1 ⟨he, hb1⟩
    have hown1 := ownsRow_below hown hb1
    have hb2 := below_next hb (Nat.le_refl _) hb1
    have hsz1 := hb2.size
    clear hown hb hb1 hsz
    rcases he with ⟨a, r, hn, rfl⟩ | ⟨k, hk, hn, rfl⟩
    · obtain ⟨hr2, hlt⟩ := hr.next hn
      have hlen2 := hr2.len
      rw [List.length_append, List.length_singleton] at hlen2
      clear hn
      go_wp2_with (first
        | (at_builtin; refine wpList_append_own _ rfl (.tmp 18) (.tmp 20) 69 rfl w.heap.size 9 i0 (.string ⟨#[]⟩) 1 16 Try.underlying69 hi hz0 hz1 hz2 rfl (by decide) _ _ _ rfl (hown1.alloc _) ⟨w1.heap.size, 0, none⟩ 1 1 [.string a] rfl rfl ?c1 ?c2 ?c3 ?c4 ?c5 ?_))
      case c1 => exact new_one _ _ _
      case c2 => exact one_str a
      case c3 => unfold maxLen; omega
      case c4 => omega
      case c5 => simp; omega
      intro v' w2 hown' hgrow _
      have hown2 : w2.ownsRow w.heap.size 9 1 v' (([] : List (List UInt8)) ++ [a.data.toList]).length ((([] : List (List UInt8)) ++ [a.data.toList]).map tx) := by
        rw [List.length_append, List.map_append, List.map_singleton, tx_data]
        exact hown'
      have hb3 := (hb2.alloc hsz1 _).grown hgrow (by simp; omega) (fun k hk => (hown1.lt k hk).1)
      clear hown1 hown' hgrow hb2 hi
      go_wp2
      go_step3
      exact ⟨rfl, r, _, v', _, _, _, _, _, _, _, _, _, _, _, _, _, _, _, _, _, rfl, hr2, hown2, hb3⟩
    · have hk0 : ((k : Int) == 0) = false := by simp; omega
      have hend := Lib.hid (scan_end hr hk hn hown1 hb2)
      clear hn hown1 hb2 hr
      go_wp2
      simp only [Exit.jump]
      go_ret2
      have hend2 := hend.out
      rw [show ((s.size : Int) - (s.size : Int)) = 0 by omega] at hend2
      exact hend2
  · rintro a' wr ⟨t, done, v, u6, u7, u8, u9, u10, u11, u12, u13, u14, u15, u16, u17, u18, u19, u20, u21, u22, rfl, hr, hown, hb⟩
    have hlen := hr.len
    have hsz := hb.size
    go_wp2_with fail
    refine (next_any _ (by omega) _).mono ?_
    rintro e w1 ⟨he, hb1⟩
    have hown1 := ownsRow_below hown hb1
    have hb2 := below_next hb (Nat.le_refl _) hb1
    have hsz1 := hb2.size
    clear hown hb hb1 hsz
    rcases he with ⟨a, r, hn, rfl⟩ | ⟨k, hk, hn, rfl⟩
    · obtain ⟨hr2, hlt⟩ := hr.next hn
      have hlen2 := hr2.len
      rw [List.length_append, List.length_singleton] at hlen2
      clear hn
      go_wp2_with (first
        | (at_builtin; refine wpList_append_own _ rfl (.tmp 18) (.tmp 20) 69 rfl w.heap.size 9 i0 (.string ⟨#[]⟩) 1 16 Try.underlying69 hi hz0 hz1 hz2 rfl (by decide) _ _ _ rfl (hown1.alloc _) ⟨w1.heap.size, 0, none⟩ 1 1 [.string a] rfl rfl ?c1 ?c2 ?c3 ?c4 ?c5 ?_))
      case c1 => exact new_one _ _ _
      case c2 => exact one_str a
      case c3 => unfold maxLen; omega
      case c4 => omega
      case c5 => simp; omega
      intro v' w2 hown' hgrow _
      have hown2 : w2.ownsRow w.heap.size 9 1 v' (done ++ [a.data.toList]).length ((done ++ [a.data.toList]).map tx) := by
        rw [List.length_append, List.map_append, List.map_singleton, tx_data]
        exact hown'
      have hb3 := (hb2.alloc hsz1 _).grown hgrow (by simp; omega) (fun k hk => (hown1.lt k hk).1)
      clear hown1 hown' hgrow hb2 hi
      go_wp2
      go_step3
      exact ⟨rfl, ⟨r, _, v', _, _, _, _, _, _, _, _, _, _, _, _, _, _, _, _, _, rfl, hr2, hown2, hb3⟩, hlt⟩
    · have hk0 : ((k : Int) == 0) = false := by simp; omega
      have hend := Lib.hid (scan_end hr hk hn hown1 hb2)
      clear hn hown1 hb2 hr
      go_wp2
      simp only [Exit.jump]
      go_ret2
      exact hend.out
end Go.Proofs.Ytlakemcbfeogkaa

namespace Go.Proofs.Ytlakemcbfeogkaa
open Go.RowKit
set_option linter.unusedVariables false

set_option maxHeartbeats 400000 in
set_option maxRecDepth 100000 in
theorem rsum_any (s : ByteArray) (hs : s.size ≤ maxLen) (w : World) :
    Calls Try.prog 77 #[.string s] w fun e w' => e = .returned (.int .u32 (crcL s.data.toList : Nat)) ∧ w = w' := by
  unfold maxLen at hs
  have h32 := crcS_32
  go_enter Try.func77, Try.ntmps77
  go_wp2
  go_loop [3, 4] (fun c i => ∃ (k : Nat), k ≤ s.size ∧ i = .int .i64 (k : Int) ∧ c = .int .u32 (crcS (s.data.toList.take k) : Nat)) (fun _ i => s.size - (intOf i).toNat)
  case atStart => exact ⟨0, by omega, rfl, rfl⟩
  case round =>
    obtain ⟨k, hk, rfl, rfl⟩ := hrel
    by_cases hlt : k < s.size
    · have hx := Lib.hid (crcS_take (l := s.data.toList) (k := k) (by simpa using hlt))
      have hb := Lib.hid (h32 (s.data.toList.take k))
      have hc := UInt8.toNat_lt s[k]
      have he : bits .xor .u32 (crcS (s.data.toList.take k) : Int) (s[k].toNat : Int) = ((crcS (s.data.toList.take k) ^^^ s[k].toNat : Nat) : Int) := u32_xor_nat _ _ hb.out.out (by omega)
      have hu : U32 (crcS (s.data.toList.take k) ^^^ s[k].toNat) := xor32 hb.out.out (by omega)
      generalize hX : crcS (s.data.toList.take k) ^^^ s[k].toNat = X at *
      go_wp2_with fail
      go_loop [3, 5] (fun c i => ∃ (j : Nat), j ≤ 8 ∧ i = .int .i64 (j : Int) ∧ c = .int .u32 (stepsC j X : Nat)) (fun _ i => 8 - (intOf i).toNat)
      case atStart => exact ⟨0, by omega, rfl, rfl⟩
      case round =>
        obtain ⟨j, hj, rfl, rfl⟩ := hrel
        by_cases hlt8 : j < 8
        · have h3 := (stepsC_32 j hu).out
          have hpar := Nat.mod_two_eq_zero_or_one (stepsC j X)
          by_cases h1 : stepsC j X % 2 = 1
          · have hs := Lib.hid (show stepC (stepsC j X) = stepsC j X / 2 ^^^ 3988292384 by rw [stepC, if_pos h1])
            have hx2 := u32_xor_nat (stepsC j X / 2) 3988292384 (by omega) (by omega)
            have ht : (((stepsC j X : Nat) : Int) % 2 == 1) = true := by simp; omega
            clear hpar
            go_wp2
            go_round
            case rel => exact ⟨j + 1, by omega, by go_num, by rw [stepsC, hs.out, ← hx2]; simp⟩
            case measure => simp [intOf]; omega
          · have hs := Lib.hid (show stepC (stepsC j X) = stepsC j X / 2 by rw [stepC, if_neg h1])
            have ht : (((stepsC j X : Nat) : Int) % 2 == 1) = false := by simp; omega
            clear hpar
            go_wp2
            go_round
            case rel => exact ⟨j + 1, by omega, by go_num, by rw [stepsC, hs.out]; simp⟩
            case measure => simp [intOf]; omega
        · obtain rfl : j = 8 := by omega
          go_wp2
          go_round
          case rel => exact ⟨k + 1, by omega, by go_num, by rw [hx.out, byteC, ← hX]; rfl⟩
          case measure => simp [intOf]; omega
    · obtain rfl : k = s.size := by omega
      have hn := Lib.hid (sum_sub s)
      have hb := (h32 (s.data.toList.take s.size)).out
      go_wp2
      go_ret
      exact ⟨by rw [← hn.out]; rfl, rfl⟩
end Go.Proofs.Ytlakemcbfeogkaa

namespace Go.Proofs.Ytlakemcbfeogkaa
open Go.RowKit
set_option linter.unusedVariables false

set_option maxHeartbeats 400000 in
set_option maxRecDepth 100000 in
theorem four_any (s : ByteArray) (hs : s.size ≤ maxLen) (w : World) :
    Calls Try.prog 53 #[.string s] w fun e w' => e = .returned (.string ⟨(sumL s.data.toList).toArray⟩) ∧ Below w.heap.size w w' := by
  have hx := Lib.hid (sum_text s)
  have hw : IntKind.u64.wrap (crcL s.data.toList : Int) = (crcL s.data.toList : Nat) := by
    have := (crcL_32 s.data.toList).out
    exact IntWalk.u64_in _ ⟨by omega, by omega⟩
  have hl := fixedL_len (crcL s.data.toList)
  have h64 := (crcL_32 s.data.toList).u64
  go_enter Try.func53, Try.ntmps53
  go_wp2_with fail
  refine (rsum_any _ hs _).mono ?_
  rintro e w' ⟨rfl, rfl⟩
  go_wp2_with fail
  refine (rfixed_any _ h64 _).mono ?_
  rintro e w1 ⟨rfl, hb1⟩
  go_wp2
  go_ret
  exact ⟨by rw [← hx.out]; rfl, hb1⟩
end Go.Proofs.Ytlakemcbfeogkaa

namespace Go.Proofs.Ytlakemcbfeogkaa
open Go.RowKit
set_option linter.unusedVariables false

set_option maxHeartbeats 400000 in
set_option maxRecDepth 100000 in
theorem rwrap_any (s : ByteArray) (hs : s.size ≤ 1048576) (w : World) :
    Calls Try.prog 31 #[.string s] w fun e w' => e = .returned (.tuple #[.string ⟨(frameL s.data.toList).toArray⟩, .int .i64 0]) ∧ Below w.heap.size w w' := by
  have hx := Lib.hid (wrap_text s)
  have hl := putL_len10 (small64 hs)
  have h4 := sumL_len s.data.toList
  go_enter Try.func31, Try.ntmps31
  go_wp2_with fail
  refine (rint_any _ (by omega) _).mono ?_
  rintro e w1 ⟨rfl, hb1⟩
  go_wp2_with fail
  refine (four_any _ (by unfold maxLen; omega) _).mono ?_
  rintro e w2 ⟨rfl, hb2⟩
  go_wp2
  go_ret2
  exact ⟨by rw [← hx.out]; rfl, below_next hb1 (Nat.le_refl _) hb2⟩

set_option maxHeartbeats 400000 in
set_option maxRecDepth 100000 in
theorem rwrap_long (s : ByteArray) (hs : ¬ s.size ≤ 1048576) (w : World) :
    Calls Try.prog 31 #[.string s] w fun e w' => e = .returned (.tuple #[.string ⟨#[]⟩, .int .i64 2]) ∧ w = w' := by
  go_enter Try.func31, Try.ntmps31
  go_wp2
  go_ret2
  exact ⟨rfl, rfl⟩
end Go.Proofs.Ytlakemcbfeogkaa

namespace Go.Proofs.Ytlakemcbfeogkaa
open Go.RowKit
set_option linter.unusedVariables false

/-- What the reference's test has come to behind k bytes. -/
def cutTo (s : ByteArray) (k : Nat) : Bool := decide (s.size < 10) && highTo s.data.toList k

theorem cutTo_zero (s : ByteArray) : cutTo s 0 = decide (s.size < 10) := by simp [cutTo, highTo_zero]

theorem cutTo_next {s : ByteArray} {k : Nat} (h : k < s.size) : cutTo s (k + 1) = (cutTo s k && decide (128 ≤ (s[k].toNat : Int))) := by
  unfold cutTo
  rw [highTo_next (by simpa using h), Bool.and_assoc]
  congr 2
  rw [decide_eq_decide]
  show 128 ≤ s[k].toNat ↔ _
  omega

theorem cutTo_end {s : ByteArray} {k : Nat} (h : k ≤ s.size) (h2 : ¬ k < s.size ∨ ¬ k < 10) : cutTo s k = isCut s.data.toList := by
  by_cases h10 : s.size < 10
  · obtain rfl : k = s.size := by omega
    rw [cutTo, decide_eq_true h10, Bool.true_and, isCut_high (by simpa using h10)]
    simp
  · rw [cutTo, decide_eq_false h10, Bool.false_and, isCut_long (by simpa using h10)]

set_option maxHeartbeats 1000000 in
set_option maxRecDepth 100000 in
theorem rnext_any (s : ByteArray) (hs : s.size ≤ 140737488355328) (w : World) :
    Calls Try.prog 63 #[.string s] w fun e w' => NextEnd s e ∧ Below w.heap.size w w' := by
  go_enter Try.func63, Try.ntmps63
  have hz : Hid (decide (s.size < 10) = cutTo s 0) := (cutTo_zero s).symm
  go_upto_block 0 with (fail)
  go_cut [5] (fun b wx => b = .bool (isCut s.data.toList) ∧ wx = w)
  case first =>
    go_wp2_with fail
    go_loop [5, 6] (fun b i => ∃ (k : Nat), k ≤ s.size ∧ k ≤ 10 ∧ i = .int .i64 (k : Int) ∧ b = .bool (cutTo s k)) (fun _ i => 10 - (intOf i).toNat)
    case atStart =>
      refine ⟨0, by omega, by omega, rfl, ?_⟩
      rw [← hz.out]
      congr 1
      simp; omega
    case round =>
      obtain ⟨k, hk, hk10, rfl, rfl⟩ := hrel
      by_cases hlt : k < s.size
      · by_cases h10 : k < 10
        · have hn := cutTo_next hlt
          by_cases hc : cutTo s k = true
          · rw [hc, Bool.true_and] at hn
            have HN := Lib.hid hn
            clear hn
            go_wp2
            go_round
            case rel => exact ⟨k + 1, by omega, by omega, by go_num, by rw [HN.out]⟩
            case measure => simp [intOf]; omega
          · have hc : cutTo s k = false := by simpa using hc
            rw [hc, Bool.false_and] at hn
            have HN := Lib.hid hn
            clear hn
            go_wp2
            go_round
            case rel => exact ⟨k + 1, by omega, by omega, by go_num, by rw [HN.out]⟩
            case measure => simp [intOf]; omega
        · have he := Lib.hid (cutTo_end hk (.inr h10))
          go_wp2_with fail
          go_meet
          exact ⟨by rw [he.out], rfl⟩
      · have he := Lib.hid (cutTo_end hk (.inl hlt))
        go_wp2_with fail
        go_meet
        exact ⟨by rw [he.out], rfl⟩
  case rest =>
    obtain ⟨hcut, rfl⟩ := hcut
    by_cases hc : isCut s.data.toList = true
    · have H := next_bad (.inl rfl) (nextL_cut hc)
      rw [hc] at hcut
      subst hcut
      clear hz
      go_wp2
      go_ret3
      exact ⟨H, Below.refl _ _⟩
    · have hc : isCut s.data.toList = false := by simpa using hc
      rw [hc] at hcut
      subst hcut
      clear hz
      go_wp2_with fail
      refine (rget_any _ (by unfold maxLen; omega) _).mono ?_
      rintro e w1 ⟨he, hb1⟩
      rcases he with ⟨n, k, hg, rfl⟩ | ⟨hg, rfl⟩
      · have hk := getL_pos hg
        simp only [Array.length_toList] at hk
        have e1 : s.data.size = s.size := rfl
        have hk0 : ((k : Int) == 0) = false := by simp; omega
        by_cases hn : 1048576 < n
        · have H := next_bad (.inr rfl) (nextL_great hc hg hn)
          clear hc hg hk
          have hd : decide ((1048576 : Int) < (n : Int)) = true := by simp; omega
          go_wp2
          go_ret3
          exact ⟨H, hb1⟩
        · have hd : decide ((1048576 : Int) < (n : Int)) = false := by simp; omega
          have hw : IntKind.i64.wrap (n : Int) = (n : Int) := IntWalk.i64_in _ ⟨by omega, by omega⟩
          have ht : (s.extract k s.size).data.toList = s.data.toList.drop k := extract_drop s k
          have htz : (s.extract k s.size).size = s.size - k := by
            have := congrArg List.length ht
            simp only [Array.length_toList, List.length_drop] at this
            exact this
          have hks : k ≤ s.size := by omega
          by_cases hl : s.size - k < 4 + n
          · have H := next_bad (.inl rfl) (nextL_short hc hg hn (by rw [Array.length_toList]; exact hl))
            clear hc hg ht htz
            by_cases hl4 : s.size - k < 4
            · go_wp2
              go_ret3
              exact ⟨H, hb1⟩
            · have hd4 : decide (((s.size - k : Nat) : Int) < 4) = false := by simp; omega
              have hd5 : decide (((s.size - k : Nat) : Int) - 4 < (n : Int)) = true := by simp; omega
              go_wp2
              go_ret3
              exact ⟨H, hb1⟩
          · have hct : ((s.extract k s.size).extract 4 (4 + n)).data.toList = ((s.data.toList.drop k).take (4 + n)).drop 4 := by rw [ext_data, ht]
            have hcs : ((s.extract k s.size).extract 4 (4 + n)).size ≤ 140737488355328 := by
              have := congrArg List.length hct
              simp only [Array.length_toList, List.length_drop, List.length_take] at this
              show ((s.extract k s.size).extract 4 (4 + n)).data.size ≤ _
              omega
            have h4 : ((s.extract k s.size).extract 0 4).data.toList = (s.data.toList.drop k).take 4 := by rw [ext_data, ht]; simp
            have hnl : ¬ s.data.toList.length - k < 4 + n := by rw [Array.length_toList]; exact hl
            have hrd : ((s.extract k s.size).extract (4 + n) (s.extract k s.size).size).data.toList = (s.data.toList.drop k).drop (4 + n) := by rw [extract_drop, ht]
            have q1 : ((4 : Int) + (n : Int)).toNat = 4 + n := by omega
            have q2 : (0 : Int) ≤ 4 + (n : Int) := by omega
            have q3 : (4 : Int) + (n : Int) ≤ ((s.size - k : Nat) : Int) := by omega
            have q4 : 4 + n ≤ s.size - k := by omega
            have q5 : (4 : Int) ≤ 4 + (n : Int) := by omega
            have q6 : 4 ≤ 4 + n := by omega
            have q7 : 4 ≤ s.size - k := by omega
            have q8 : (4 : Int) ≤ ((s.size - k : Nat) : Int) := by omega
            have hd4 : decide (((s.size - k : Nat) : Int) < 4) = false := by simp; omega
            have hd5 : decide (((s.size - k : Nat) : Int) - 4 < (n : Int)) = false := by simp; omega
            have hsp : sumL (List.take n (List.drop 4 (s.extract k s.size).data.toList)) = sumL (((s.data.toList.drop k).take (4 + n)).drop 4) := by
              rw [ht, List.drop_take]; congr 2; omega
            by_cases hsum : (s.data.toList.drop k).take 4 = sumL (((s.data.toList.drop k).take (4 + n)).drop 4)
            · have HN : NextEnd s (.returned (.tuple #[.string ((s.extract k s.size).extract 4 (4 + n)), .string ((s.extract k s.size).extract (4 + n) (s.extract k s.size).size), .int .i64 0])) := by
                refine .inl ⟨_, _, ?_, rfl⟩
                rw [nextL_ok hc hg hn hnl hsum, hct, hrd]
              have hcmp : (sumL (List.take n (List.drop 4 (s.extract k s.size).data.toList)) == ((s.extract k s.size).extract 0 4).toList) = true := by
                rw [Lib.toList_data, h4, hsp, hsum]; exact beq_self_eq_true _
              clear hc hg hsum h4 hct hnl hrd hsp
              go_upto_region 15 with (fail)
              generalize s.extract k s.size = t at *
              have p1 : 4 + n ≤ t.size := by omega
              have p2 : (4 : Int) + (n : Int) ≤ (t.size : Int) := by omega
              have p3 : 4 ≤ t.size := by omega
              have p4 : (4 : Int) ≤ (t.size : Int) := by omega
              clear ht htz
              go_region_with (go_at_call 53; refine (four_any _ (by unfold maxLen; omega) _).mono ?_; rintro e w2 ⟨rfl, hb2⟩)
              all_goals go_wp2
              all_goals have p5 : IntKind.i64.wrap (4 + (n : Int)) = 4 + (n : Int) := IntWalk.i64_in _ ⟨by omega, by omega⟩
              all_goals go_quiet (fail)
              all_goals go_wp2
              all_goals go_ret3
              all_goals exact ⟨HN, below_drewN (below_next (below_drewN hb1 1) (Nat.le_refl _) hb2) _⟩
            · have HN := next_bad (.inr rfl) (nextL_wrong hc hg hn hnl hsum)
              have hcmp : (sumL (List.take n (List.drop 4 (s.extract k s.size).data.toList)) == ((s.extract k s.size).extract 0 4).toList) = false := by
                rw [Lib.toList_data, h4, hsp]
                simpa using fun e => hsum e.symm
              clear hc hg hsum h4 hct hnl hrd hsp
              go_upto_region 15 with (fail)
              generalize s.extract k s.size = t at *
              have p1 : 4 + n ≤ t.size := by omega
              have p2 : (4 : Int) + (n : Int) ≤ (t.size : Int) := by omega
              have p3 : 4 ≤ t.size := by omega
              have p4 : (4 : Int) ≤ (t.size : Int) := by omega
              clear ht htz
              go_region_with (go_at_call 53; refine (four_any _ (by unfold maxLen; omega) _).mono ?_; rintro e w2 ⟨rfl, hb2⟩)
              all_goals go_wp2
              all_goals go_ret3
              all_goals exact ⟨HN, below_next (below_drewN hb1 1) (Nat.le_refl _) hb2⟩
      · have H := next_bad (.inr rfl) (nextL_none hc hg)
        clear hc hg
        go_wp2
        go_ret3
        exact ⟨H, hb1⟩
end Go.Proofs.Ytlakemcbfeogkaa

namespace Go.Proofs.Ytlakemcbfeogkaa
open Go.RowKit
set_option linter.unusedVariables false

set_option maxHeartbeats 1000000 in
set_option maxRecDepth 100000 in
theorem rscan_any (s : ByteArray) (hs : s.size ≤ 1099511627776) (w : World) :
    Calls Try.prog 37 #[.string s] w fun e w' => ScanEnd w s e w' := by
  obtain ⟨i0, hi, hz0, hz1, hz2⟩ := info_parts infoStr
  go_enter Try.func37, Try.ntmps37
  go_wp2
  go_loopw [4, 5] (fun v r wr => ∃ (t : ByteArray) (done : List (List UInt8)), r = .string t ∧ ScanRel s done t ∧ wr.ownsRow w.heap.size 9 1 v done.length (done.map tx) ∧ Below w.heap.size w wr)
    (fun _ r _ => match r with | .string t => t.size | _ => 0)
  case atStart => exact ⟨s, [], rfl, ScanRel.start s, World.ownsRow_nil _ _ _ _, Below.refl _ _⟩
  case round =>
    obtain ⟨t, done, rfl, hr, hown, hb⟩ := hrel
    have hlen := hr.len
    have hsz := hb.size
    go_wp2_with fail
    refine (rnext_any _ (by omega) _).mono ?_
    rintro e w1 ⟨he, hb1⟩
    have hown1 := ownsRow_below hown hb1
    have hb2 := below_next hb (Nat.le_refl _) hb1
    have hsz1 := hb2.size
    clear hown hb hb1 hsz
    rcases he with ⟨a, r, hn, rfl⟩ | ⟨k, hk, hn, rfl⟩
    · obtain ⟨hr2, hlt⟩ := hr.next hn
      have hlen2 := hr2.len
      rw [List.length_append, List.length_singleton] at hlen2
      clear hn
      go_wp2_with (first
        | (at_builtin; refine wpList_append_own _ rfl (.tmp 24) (.tmp 26) 69 rfl w.heap.size 9 i0 (.string ⟨#[]⟩) 1 16 Try.underlying69 hi hz0 hz1 hz2 rfl (by decide) _ _ _ rfl (hown1.alloc _) ⟨w1.heap.size, 0, none⟩ 1 1 [.string a] rfl rfl ?c1 ?c2 ?c3 ?c4 ?c5 ?_))
      case c1 => exact new_one _ _ _
      case c2 => exact one_str a
      case c3 => unfold maxLen; omega
      case c4 => omega
      case c5 => simp; omega
      intro v' w2 hown' hgrow _
      have hown2 : w2.ownsRow w.heap.size 9 1 v' (done ++ [a.data.toList]).length ((done ++ [a.data.toList]).map tx) := by
        rw [List.length_append, List.map_append, List.map_singleton, tx_data]
        exact hown'
      have hb3 := (hb2.alloc hsz1 _).grown hgrow (by simp; omega) (fun k hk => (hown1.lt k hk).1)
      clear hown1 hown' hgrow hb2 hi
      go_wp2
      go_roundw
      case rel => exact ⟨r, _, rfl, hr2, hown2, hb3⟩
      case measure => exact hlt
    · have hk0 : ((k : Int) != 0) = true := by simp; omega
      have hend := Lib.hid (scan_end hr hk hn hown1 hb2)
      clear hn hown1 hb2 hr
      go_wp2
      go_ret2
      exact hend.out
end Go.Proofs.Ytlakemcbfeogkaa

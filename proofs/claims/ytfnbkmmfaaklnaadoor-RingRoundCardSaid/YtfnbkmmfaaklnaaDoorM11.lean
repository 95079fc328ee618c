/- Layer 11, plain facts: floats of 64 bits by their values: when two are the same; whole numbers' floats; places. -/
import Derived.WalkKit
import Derived.Lib.Hide
namespace Go.Proofs.YtfnbkmmfaaklnaaDoor
/-- A number's value, in units of the least place. -/
def valD : Ieee.Datum → Option Int
  | .number s m i => some (Ieee.signed s m (i + 1074).toNat)
  | _ => none
theorem read_place {b : Nat} {s m i} (h : Ieee.double.read b = .number s m i) : -1074 ≤ i := by
  have hl : Ieee.double.leastPlace = -1074 := by decide
  unfold Ieee.Format.read at h
  simp only at h
  split at h
  · injection h with _ _ h; rw [← h, hl]; decide
  · split at h
    · injection h with _ _ h; rw [← h, hl]; omega
    · split at h <;> cases h
theorem signed_scale (s : Bool) (m a b : Nat) : Ieee.signed s m (a + b) = Ieee.signed s m a * 2 ^ b := by
  unfold Ieee.signed
  have h : (m <<< (a + b) : Nat) = (m <<< a) * 2 ^ b := by rw [Nat.shiftLeft_eq, Nat.shiftLeft_eq, Nat.pow_add, Nat.mul_assoc]
  cases s <;> simp only [if_true, if_false, Bool.false_eq_true, h, Int.natCast_mul, Int.natCast_pow, Int.neg_mul] <;> rfl
theorem compare_eq_int (a b : Int) : (some (compare a b) == some Ordering.eq) = decide (a = b) := by
  by_cases h : a = b
  · subst h; simp
  · have h2 : compare a b ≠ .eq := fun e => by
      simp only [compare, compareOfLessAndEq] at e
      split at e
      · cases e
      · first | cases e | (rw [if_neg h] at e; cases e)
    simp [h, h2]
theorem order_val {x y : Ieee.Datum} {a b : Int} (hx : valD x = some a) (hy : valD y = some b) (px : ∀ s m i, x = .number s m i → -1074 ≤ i) (py : ∀ s m i, y = .number s m i → -1074 ≤ i) : (x.order y == some .eq) = decide (a = b) := by
  cases x with
  | infinity _ => cases hx
  | nan _ _ => cases hx
  | number s m i =>
  cases y with
  | infinity _ => cases hy
  | nan _ _ => cases hy
  | number t n j =>
    have hi := px s m i rfl
    have hj := py t n j rfl
    injection hx with hx
    injection hy with hy
    show (some (compare (Ieee.signed s m (i - min i j).toNat) (Ieee.signed t n (j - min i j).toNat)) == some .eq) = _
    rw [compare_eq_int]
    have e1 : (i + 1074).toNat = (i - min i j).toNat + (min i j + 1074).toNat := by omega
    have e2 : (j + 1074).toNat = (j - min i j).toNat + (min i j + 1074).toNat := by omega
    rw [e1, signed_scale] at hx
    rw [e2, signed_scale] at hy
    have hp : (2 : Int) ^ (min i j + 1074).toNat ≠ 0 := Int.pow_ne_zero (by decide)
    rw [← hx, ← hy]
    rw [decide_eq_decide]
    exact ⟨fun h => by rw [h], fun h => Int.eq_of_mul_eq_mul_right hp h⟩
/-- The value of a word. -/
def valW (b : Nat) : Option Int := valD (Ieee.double.read b)
theorem order_none {x y : Ieee.Datum} (hx : valD x = none) {b : Int} (hy : valD y = some b) : (x.order y == some .eq) = false := by
  cases x with
  | number s m i => cases hx
  | nan _ _ => cases y <;> rfl
  | infinity s =>
    cases y with
    | number t n j => cases s <;> rfl
    | infinity _ => cases hy
    | nan _ _ => cases hy
/-- Two words, the second one a number: are they the same? -/
theorem eq_val (x y : Nat) {b : Int} (hy : valW y = some b) : (FloatKind.f64.format.order x y == some .eq) = decide (valW x = some b) := by
  show ((Ieee.double.read x).order (Ieee.double.read y) == some .eq) = _
  cases hx : valW x with
  | none => rw [order_none hx hy]; simp
  | some a => rw [order_val hx hy (fun s m i h => read_place h) (fun s m i h => read_place h)]; simp
theorem whole_val : ∀ n : Fin 2049, valW (FloatKind.f64.nearest ((n.val : Int) - 1024)) = some (((n.val : Int) - 1024) * 2 ^ 1074) := by
  decide +kernel
/-- The float of a whole number. -/
def flN (n : Int) : Nat := FloatKind.f64.nearest n
theorem val_fl {n : Int} (h1 : -1024 ≤ n) (h2 : n ≤ 1024) : valW (flN n) = some (n * 2 ^ 1074) := by
  have h := whole_val ⟨(n + 1024).toNat, by omega⟩
  have e : (((⟨(n + 1024).toNat, by omega⟩ : Fin 2049).val : Nat) : Int) - 1024 = n := by show (((n + 1024).toNat : Nat) : Int) - 1024 = n; omega
  rw [e] at h
  exact h
/-- Is the word that whole number? -/
def isN (b : Nat) (n : Int) : Bool := FloatKind.f64.format.order b (flN n) == some .eq
theorem isN_val {b : Nat} {n : Int} (h1 : -1024 ≤ n) (h2 : n ≤ 1024) : isN b n = decide (valW b = some (n * 2 ^ 1074)) := eq_val b _ (val_fl h1 h2)
theorem isN_one {b : Nat} {n m : Int} (hn : -1024 ≤ n ∧ n ≤ 1024) (hm : -1024 ≤ m ∧ m ≤ 1024) (h1 : isN b n = true) (h2 : isN b m = true) : n = m := by
  rw [isN_val hn.1 hn.2, decide_eq_true_eq] at h1
  rw [isN_val hm.1 hm.2, decide_eq_true_eq, h1] at h2
  injection h2 with h2
  exact Int.eq_of_mul_eq_mul_right (Int.pow_ne_zero (by decide)) h2
theorem isN_self {n m : Int} (hn : -1024 ≤ n ∧ n ≤ 1024) (hm : -1024 ≤ m ∧ m ≤ 1024) : isN (flN n) m = decide (n = m) := by
  rw [isN_val hm.1 hm.2, val_fl hn.1 hn.2, decide_eq_decide]
  exact ⟨fun h => by injection h with h; exact Int.eq_of_mul_eq_mul_right (Int.pow_ne_zero (by decide)) h, fun h => by rw [h]⟩
/-- The parts of the place t steps round. -/
def partX (t : Nat) : Int := if t / 1024 = 0 then 1024 - (t % 1024 : Nat) else if t / 1024 = 1 then -((t % 1024 : Nat) : Int) else if t / 1024 = 2 then (t % 1024 : Nat) - 1024 else (t % 1024 : Nat)
def partY (t : Nat) : Int := if t / 1024 = 0 then (t % 1024 : Nat) else if t / 1024 = 1 then 1024 - (t % 1024 : Nat) else if t / 1024 = 2 then -((t % 1024 : Nat) : Int) else (t % 1024 : Nat) - 1024
theorem part_in (t : Nat) : (-1024 ≤ partX t ∧ partX t ≤ 1024) ∧ (-1024 ≤ partY t ∧ partY t ≤ 1024) := by
  unfold partX partY
  have := Nat.mod_lt t (show 0 < 1024 by decide)
  split <;> (try split) <;> (try split) <;> omega
theorem part_inj {t u : Nat} (ht : t < 4096) (hu : u < 4096) (hx : partX t = partX u) (hy : partY t = partY u) : t = u := by
  unfold partX at hx
  unfold partY at hy
  have h1 := Nat.mod_lt t (show 0 < 1024 by decide)
  have h2 := Nat.mod_lt u (show 0 < 1024 by decide)
  have h3 := Nat.div_add_mod t 1024
  have h4 := Nat.div_add_mod u 1024
  have h5 : t / 1024 < 4 := by omega
  have h6 : u / 1024 < 4 := by omega
  generalize t / 1024 = a at *
  generalize u / 1024 = b at *
  generalize t % 1024 = x at *
  generalize u % 1024 = y at *
  rcases (by omega : a = 0 ∨ a = 1 ∨ a = 2 ∨ a = 3) with rfl | rfl | rfl | rfl <;> rcases (by omega : b = 0 ∨ b = 1 ∨ b = 2 ∨ b = 3) with rfl | rfl | rfl | rfl <;> simp at hx hy <;> omega
/-- Is it the place t steps round? -/
def isAt (re im t : Nat) : Bool := isN re (partX t) && isN im (partY t)
/-- How far round a place is. -/
def atC (re im : Nat) : Int := match (List.range 4096).find? (isAt re im) with | some t => (t : Int) | none => -1
theorem isAt_one {re im t u : Nat} (ht : t < 4096) (hu : u < 4096) (h1 : isAt re im t = true) (h2 : isAt re im u = true) : t = u := by
  unfold isAt at h1 h2
  rw [Bool.and_eq_true] at h1 h2
  exact part_inj ht hu (isN_one (part_in t).1 (part_in u).1 h1.1 h2.1) (isN_one (part_in t).2 (part_in u).2 h1.2 h2.2)
theorem atC_at {re im t : Nat} (ht : t < 4096) (h : isAt re im t = true) : atC re im = (t : Int) := by
  unfold atC
  cases e : (List.range 4096).find? (isAt re im) with
  | none => exact absurd h (by simpa using List.find?_eq_none.1 e t (List.mem_range.2 ht))
  | some u =>
    have hu := List.mem_range.1 (List.mem_of_find?_eq_some e)
    have := isAt_one ht hu h (by simpa using List.find?_some e)
    rw [this]
theorem atC_none {re im : Nat} (h : ∀ t, t < 4096 → isAt re im t = false) : atC re im = -1 := by
  unfold atC
  rw [List.find?_eq_none.2 fun t ht => by rw [h t (List.mem_range.1 ht)]; simp]
theorem atC_place {t : Nat} (ht : t < 4096) : atC (flN (partX t)) (flN (partY t)) = (t : Int) := by
  refine atC_at ht ?_
  unfold isAt
  rw [isN_self (part_in t).1 (part_in t).1, isN_self (part_in t).2 (part_in t).2]
  simp
theorem atC_in (re im : Nat) : -1 ≤ atC re im ∧ atC re im < 4096 := by
  unfold atC
  cases e : (List.range 4096).find? (isAt re im) with
  | none => simp
  | some u => have := List.mem_range.1 (List.mem_of_find?_eq_some e); simp only; omega
end Go.Proofs.YtfnbkmmfaaklnaaDoor

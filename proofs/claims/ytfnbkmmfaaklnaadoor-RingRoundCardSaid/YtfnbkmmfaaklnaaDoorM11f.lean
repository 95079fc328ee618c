/- Layer 11, plain facts: what the program's operations make of whole numbers' words: a number and its scaled likeness are written alike. -/
import Derived.Test.YtfnbkmmfaaklnaaDoorM11
import Derived.WalkLawsBesides
namespace Go.Proofs.YtfnbkmmfaaklnaaDoor
open Ieee
/-- -0, 1, -1, 1024. -/
def wZ : Nat := 9223372036854775808
def w1 : Nat := 4607182418800017408
def wM : Nat := 13830554455654793216
def wS : Nat := 4652218415073722368
theorem cut_exact (neg : Bool) (n d : Nat) (hd : d ≤ (n <<< d).log2 + 2) : Toward.even.cut neg (n <<< d) d = n := by
  unfold Toward.cut
  have e1 : min d ((n <<< d).log2 + 2) = d := Nat.min_eq_left hd
  have e2 : (1 <<< d : Nat) = 2 ^ d := by rw [Nat.shiftLeft_eq, Nat.one_mul]
  have hp : 0 < 2 ^ d := Nat.two_pow_pos d
  have e3 : n <<< d / 2 ^ d = n := by rw [Nat.shiftLeft_eq, Nat.mul_div_cancel _ hp]
  have e4 : n <<< d % 2 ^ d = 0 := by rw [Nat.shiftLeft_eq, Nat.mul_mod_left]
  simp only [e1, e2, e3, e4]
  have h1 : (decide (2 ^ d < 2 * 0)) = false := by simp
  have h2 : (2 ^ d == 2 * 0) = false := by rw [beq_eq_false_iff_ne]; omega
  rw [h1, h2]
  rfl
theorem log2_shift (m a : Nat) (hm : m ≠ 0) : (m <<< a).log2 = m.log2 + a := by
  rw [Nat.shiftLeft_eq]
  have h1 := Nat.log2_self_le hm
  have h2 := Nat.lt_log2_self (n := m)
  have hp : 0 < 2 ^ a := Nat.two_pow_pos a
  have h0 : m * 2 ^ a ≠ 0 := Nat.mul_ne_zero hm (by omega)
  refine (Nat.log2_eq_iff h0).2 ⟨?_, ?_⟩
  · rw [Nat.pow_add]; exact Nat.mul_le_mul_right _ h1
  · rw [show m.log2 + a + 1 = m.log2 + 1 + a by omega, Nat.pow_add]; exact Nat.mul_lt_mul_of_pos_right h2 hp
/-- A number that has room, and the same with its magnitude shifted. -/
theorem near_scale (neg : Bool) (m a : Nat) (p : Int) (hm : m ≠ 0) (hl : m.log2 ≤ 52) (hp : -1074 ≤ p) : double.nearest neg (m <<< a) (p - a) = double.nearest neg m p := by
  have h0 : m <<< a ≠ 0 := by rw [Nat.shiftLeft_eq]; exact Nat.mul_ne_zero hm (by have := Nat.two_pow_pos a; omega)
  have hL := log2_shift m a hm
  have hlp : double.leastPlace = -1074 := by decide
  have hfb : (double.fractionBits : Int) = 52 := rfl
  unfold Format.nearest
  rw [if_neg hm, if_neg h0]
  simp only [hL, hlp, hfb]
  have e1 : p - (a : Int) + ((m.log2 + a : Nat) : Int) - 52 = p + (m.log2 : Int) - 52 := by omega
  rw [e1]
  obtain ⟨last, hlast⟩ : ∃ last, max (p + (m.log2 : Int) - 52) (-1074) = last := ⟨_, rfl⟩
  rw [hlast]
  have hle : last ≤ p := by omega
  obtain ⟨k, hk⟩ : ∃ k : Nat, p - last = (k : Int) := ⟨(p - last).toNat, by omega⟩
  have f1 : (p - last).toNat = k := by omega
  have f2 : (last - p).toNat = 0 := by omega
  have hc : Toward.even.cut neg (m <<< k) 0 = m <<< k := by simpa using cut_exact neg (m <<< k) 0 (by omega)
  rw [f1, f2, hc]
  by_cases hc2 : a ≤ k
  · have g1 : (p - (a : Int) - last).toNat = k - a := by omega
    have g2 : (last - (p - (a : Int))).toNat = 0 := by omega
    rw [g1, g2, ← Nat.shiftLeft_add, show a + (k - a) = k by omega, hc]
  · have g1 : (p - (a : Int) - last).toNat = 0 := by omega
    have g2 : (last - (p - (a : Int))).toNat = a - k := by omega
    have g3 : m <<< a <<< 0 = m <<< k <<< (a - k) := by rw [← Nat.shiftLeft_add m k, show k + (a - k) = a by omega]; rfl
    have g4 : (m <<< k <<< (a - k)).log2 = m.log2 + a := by rw [← Nat.shiftLeft_add, show k + (a - k) = a by omega, hL]
    rw [g1, g2, g3, cut_exact neg _ _ (by omega)]
theorem near_scale' (neg : Bool) (m a : Nat) (p q : Int) (hm : m ≠ 0) (hl : m.log2 ≤ 52) (hp : -1074 ≤ p) (hq : q = p - a) : double.nearest neg (m <<< a) q = double.nearest neg m p := by rw [hq]; exact near_scale neg m a p hm hl hp
/-- What a whole number's word stands for. -/
structure Num (k : Int) (s : Bool) (m : Nat) (i : Int) : Prop where
  read : double.read (flN k) = .number s m i
  sign : s = decide (k < 0)
  zero : m = 0 ↔ k = 0
  log : m.log2 ≤ 52
  least : -1074 ≤ i
  low : i ≤ 0
  near : double.nearest s m i = flN k
  flip : double.nearest (!s) m i = if k = 0 then wZ else flN (-k)
def numOk (k : Int) : Bool := match double.read (flN k) with
  | .number s m i => (s == decide (k < 0)) && (decide (m = 0) == decide (k = 0)) && decide (m.log2 ≤ 52) && decide (-1074 ≤ i) && decide (i ≤ 0) && (double.nearest s m i == flN k) && (double.nearest (!s) m i == if k = 0 then wZ else flN (-k))
  | _ => false
theorem num_fin : ∀ n : Fin 2049, numOk ((n.val : Int) - 1024) = true := by decide +kernel
theorem num_of {k : Int} (h1 : -1024 ≤ k) (h2 : k ≤ 1024) : ∃ s m i, Num k s m i := by
  have h := num_fin ⟨(k + 1024).toNat, by omega⟩
  have e : (((⟨(k + 1024).toNat, by omega⟩ : Fin 2049).val : Nat) : Int) - 1024 = k := by show (((k + 1024).toNat : Nat) : Int) - 1024 = k; omega
  rw [e] at h
  unfold numOk at h
  split at h
  · next s m i hr =>
    simp only [Bool.and_eq_true, beq_iff_eq, decide_eq_true_eq] at h
    obtain ⟨⟨⟨⟨⟨⟨a1, a2⟩, a3⟩, a4⟩, a5⟩, a6⟩, a7⟩ := h
    exact ⟨s, m, i, hr, a1, by simpa using a2, a3, a4, a5, a6, a7⟩
  · cases h
theorem read_w1 : double.read w1 = .number false (1 <<< 52) (-52) := by decide +kernel
theorem read_wM : double.read wM = .number true (1 <<< 52) (-52) := by decide +kernel
theorem read_wZ : double.read wZ = .number true 0 (-1074) := by decide +kernel
theorem read_0 : double.read 0 = .number false 0 (-1074) := by decide +kernel
theorem one_shift (m a : Nat) : m * (1 <<< a) = m <<< a := by rw [Nat.shiftLeft_eq, Nat.shiftLeft_eq, Nat.one_mul]
theorem mul_0 {k : Int} (h1 : -1024 ≤ k) (h2 : k ≤ 1024) : FloatKind.f64.format.mul (flN k) 0 = some (if k < 0 then wZ else 0) := by
  obtain ⟨s, m, i, h⟩ := num_of h1 h2
  show ((double.read (flN k)).product (double.read 0)).map double.write = _
  rw [h.read, read_0]
  show some (double.nearest (s ^^ false) (m * 0) _) = _
  rw [Nat.mul_zero, h.sign]
  unfold Format.nearest
  rw [if_pos rfl]
  by_cases hk : k < 0
  · simp only [hk, decide_true, if_true]; rfl
  · simp only [hk, decide_false, if_false]; rfl
theorem mul_1 {k : Int} (h1 : -1024 ≤ k) (h2 : k ≤ 1024) : FloatKind.f64.format.mul (flN k) w1 = some (flN k) := by
  obtain ⟨s, m, i, h⟩ := num_of h1 h2
  show ((double.read (flN k)).product (double.read w1)).map double.write = _
  rw [h.read, read_w1]
  show some (double.nearest (s ^^ false) (m * (1 <<< 52)) (i + -52)) = _
  rw [Bool.xor_false, ← h.near, one_shift]
  by_cases hm : m = 0
  · rw [hm]
    unfold Format.nearest
    rw [if_pos (by decide), if_pos rfl]
  · rw [near_scale' s m 52 i _ hm h.log h.least (by omega)]
theorem mul_M {k : Int} (h1 : -1024 ≤ k) (h2 : k ≤ 1024) : FloatKind.f64.format.mul (flN k) wM = some (if k = 0 then wZ else flN (-k)) := by
  obtain ⟨s, m, i, h⟩ := num_of h1 h2
  show ((double.read (flN k)).product (double.read wM)).map double.write = _
  rw [h.read, read_wM]
  show some (double.nearest (s ^^ true) (m * (1 <<< 52)) (i + -52)) = _
  rw [Bool.xor_true, ← h.flip, one_shift]
  by_cases hm : m = 0
  · rw [hm]
    unfold Format.nearest
    rw [if_pos (by decide), if_pos rfl]
  · rw [near_scale' (!s) m 52 i _ hm h.log h.least (by omega)]
theorem signed_abs (s : Bool) (m a : Nat) : (signed s m a).natAbs = m <<< a := by
  cases s
  · exact Int.natAbs_natCast _
  · exact (Int.natAbs_neg _).trans (Int.natAbs_natCast _)
theorem signed_neg (s : Bool) (m a : Nat) (hm : m ≠ 0) : decide (signed s m a < 0) = s := by
  have h0 : 0 < m <<< a := by rw [Nat.shiftLeft_eq]; exact Nat.mul_pos (by omega) (Nat.two_pow_pos a)
  cases s
  · show decide (((m <<< a : Nat) : Int) < 0) = false
    generalize m <<< a = x at *
    rw [decide_eq_false_iff_not]; omega
  · show decide (-((m <<< a : Nat) : Int) < 0) = true
    generalize m <<< a = x at *
    rw [decide_eq_true_eq]; omega
theorem signed_ne (s : Bool) (m a : Nat) (hm : m ≠ 0) : signed s m a ≠ 0 := by
  have h0 : 0 < m <<< a := by rw [Nat.shiftLeft_eq]; exact Nat.mul_pos (by omega) (Nat.two_pow_pos a)
  cases s
  · show ((m <<< a : Nat) : Int) ≠ 0
    generalize m <<< a = x at *
    omega
  · show -((m <<< a : Nat) : Int) ≠ 0
    generalize m <<< a = x at *
    omega
theorem signed_0 (s : Bool) (a : Nat) : signed s 0 a = 0 := by unfold signed; cases s <;> simp
/-- A zero and a number. -/
theorem sum_0 (z s : Bool) (m : Nat) (i : Int) (hm : m ≠ 0) (hl : m.log2 ≤ 52) (hi : -1074 ≤ i) : ((Datum.number z 0 (-1074)).sum (.number s m i)).map double.write = some (double.nearest s m i) := by
  have hb : min (-1074 : Int) i = -1074 := by omega
  unfold Datum.sum
  simp only [hb, signed_0, Int.zero_add, Option.map_some]
  rw [if_neg (signed_ne s m _ hm), signed_neg s m _ hm, signed_abs]
  show some (double.nearest s (m <<< (i - -1074).toNat) (-1074)) = _
  rw [near_scale' s m _ i _ hm hl hi (by omega)]
theorem sum_0' (z s : Bool) (m : Nat) (i : Int) (hm : m ≠ 0) (hl : m.log2 ≤ 52) (hi : -1074 ≤ i) : ((Datum.number s m i).sum (.number z 0 (-1074))).map double.write = some (double.nearest s m i) := by
  have hb : min i (-1074 : Int) = -1074 := by omega
  unfold Datum.sum
  simp only [hb, signed_0, Int.add_zero, Option.map_some]
  rw [if_neg (signed_ne s m _ hm), signed_neg s m _ hm, signed_abs]
  show some (double.nearest s (m <<< (i - -1074).toNat) (-1074)) = _
  rw [near_scale' s m _ i _ hm hl hi (by omega)]
theorem read_zero (z : Bool) : double.read (if z then wZ else 0) = .number z 0 (-1074) := by cases z; exact read_0; exact read_wZ
theorem sub_z {k : Int} (h1 : -1024 ≤ k) (h2 : k ≤ 1024) (z : Bool) : FloatKind.f64.format.sub (if z then wZ else 0) (flN k) = some (if k = 0 ∧ z = true then wZ else flN (-k)) := by
  by_cases hk : k = 0
  · subst hk
    cases z <;> decide +kernel
  · obtain ⟨s, m, i, h⟩ := num_of h1 h2
    show ((double.read (if z then wZ else 0)).sum (double.read (flN k)).opposite).map double.write = _
    rw [read_zero, h.read]
    show ((Datum.number z 0 (-1074)).sum (.number (!s) m i)).map double.write = _
    rw [sum_0 z (!s) m i (fun e => hk (h.zero.1 e)) h.log h.least, h.flip, if_neg hk, if_neg (fun e => hk e.1)]
theorem add_z {k : Int} (h1 : -1024 ≤ k) (h2 : k ≤ 1024) (z : Bool) : FloatKind.f64.format.add (flN k) (if z then wZ else 0) = some (flN k) := by
  by_cases hk : k = 0
  · subst hk
    cases z <;> decide +kernel
  · obtain ⟨s, m, i, h⟩ := num_of h1 h2
    show ((double.read (flN k)).sum (double.read (if z then wZ else 0))).map double.write = _
    rw [read_zero, h.read, sum_0' z s m i (fun e => hk (h.zero.1 e)) h.log h.least, h.near]
theorem order_0 {k : Int} (h1 : -1024 ≤ k) (h2 : k ≤ 1024) : FloatKind.f64.format.order (flN k) 0 = some (compare k 0) := by
  obtain ⟨s, m, i, h⟩ := num_of h1 h2
  show (double.read (flN k)).order (double.read 0) = _
  rw [h.read, read_0]
  show some (compare (signed s m (i - min i (-1074)).toNat) (signed false 0 _)) = _
  rw [signed_0]
  by_cases hk : k = 0
  · have := h.zero.2 hk
    subst this; rw [signed_0, hk]
  · have hm : m ≠ 0 := fun e => hk (h.zero.1 e)
    have hs := signed_neg s m (i - min i (-1074)).toNat hm
    have hn := signed_ne s m (i - min i (-1074)).toNat hm
    rw [h.sign, decide_eq_decide] at hs
    rw [← h.sign] at hs
    generalize signed s m (i - min i (-1074)).toNat = x at *
    congr 1
    by_cases hk2 : k < 0
    · have hx := hs.2 hk2
      simp only [compare, compareOfLessAndEq, hx, hk2, if_true]
    · have hx : ¬ x < 0 := fun e => hk2 (hs.1 e)
      simp only [compare, compareOfLessAndEq, hx, hk2, hk, hn, if_false]
theorem int_fin : ∀ n : Fin 1025, floatToIntVal .f64 (flN (n.val : Int)) .i64 = some (n.val : Int) := by decide +kernel
/-- The absolute value: the sign's bit away. -/
theorem abs_fin : ∀ n : Fin 2049, bits .andNot .u64 (flN ((n.val : Int) - 1024) : Nat) 9223372036854775808 = ((flN (((n.val : Int) - 1024).natAbs : Int) : Nat) : Int) := by decide +kernel
/-- Rounded down: a whole number stays. -/
def wholeOk (n : Nat) : Bool := match FloatKind.f64.decode (flN n) with
  | .number s m i => FloatKind.f64.encode ((Ieee.Datum.number s m i).integral .down) == flN n
  | _ => false
theorem whole_fin : ∀ n : Fin 1025, wholeOk n.val = true := by decide +kernel
theorem sum_fin : ∀ n : Fin 1025, FloatKind.f64.format.add (flN n.val) (flN (1024 - (n.val : Int))) = some wS := by decide +kernel
end Go.Proofs.YtfnbkmmfaaklnaaDoor

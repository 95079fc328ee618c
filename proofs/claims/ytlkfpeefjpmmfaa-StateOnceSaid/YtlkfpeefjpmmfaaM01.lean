/- Layer 1, plain facts: the bytes of a number in base 128, there and back. Nothing of the program is named here. -/
import Derived.WalkKit
import Derived.Lib.Strings
import Derived.Lib.Hide
import Derived.OpenShut
namespace Go.Proofs.Ytlkfpeefjpmmfaa
open Go.RowKit
set_option linter.unusedVariables false

/-- A byte as a value. -/
def bv (b : UInt8) : Value := .int .u8 (b.toNat : Int)

/-- The bytes of a number in base 128. -/
def putL (n : Nat) : List UInt8 := if n < 128 then [UInt8.ofNat n] else UInt8.ofNat (n % 128 + 128) :: putL (n / 128)
termination_by n
decreasing_by omega

theorem putL_lt {n : Nat} (h : n < 128) : putL n = [UInt8.ofNat n] := by rw [putL, if_pos h]
theorem putL_ge {n : Nat} (h : 128 ≤ n) : putL n = UInt8.ofNat (n % 128 + 128) :: putL (n / 128) := by rw [putL, if_neg (by omega)]

theorem putL_pos (n : Nat) : 1 ≤ (putL n).length := by
  by_cases h : n < 128
  · rw [putL_lt h]; simp
  · rw [putL_ge (by omega)]; simp

theorem putL_len (k : Nat) : ∀ n : Nat, n < 128 ^ (k + 1) → (putL n).length ≤ k + 1 := by
  induction k with
  | zero => intro n h; rw [putL_lt (by simpa using h)]; simp
  | succ k ih =>
    intro n h
    by_cases h1 : n < 128
    · rw [putL_lt h1]; simp
    · rw [putL_ge (by omega)]
      have := ih (n / 128) (by rw [Nat.pow_succ] at h; omega)
      simp; omega

/-- Eight bytes, the most significant first. -/
def fixedL (n : Nat) : List UInt8 := (List.range 8).map fun j => UInt8.ofNat (n / 256 ^ (7 - j))

/-- A number of 64 bits: behind a name. -/
def U64 (n : Nat) : Prop := n < 18446744073709551616
theorem U64.out {n : Nat} (h : U64 n) : n < 18446744073709551616 := h
theorem U64.le {n m : Nat} (h : U64 n) (k : m ≤ n) : U64 m := Nat.lt_of_le_of_lt k h

theorem u64_nat {a : Int} (h : (Lit.int .u64 a).wf = true) : ∃ n : Nat, a = (n : Int) ∧ U64 n := by
  have hb := bounds_u64 h
  refine ⟨a.toNat, by omega, ?_⟩
  unfold U64; omega

theorem putL_len10 {n : Nat} (h : U64 n) : (putL n).length ≤ 10 := by
  have := putL_len 9 n (by have := h.out; simp; omega)
  omega

theorem or128 : ∀ x : Nat, x < 256 → x ||| 128 = x % 128 + 128 := by decide +kernel

theorem u8_toNat {n : Nat} (h : n < 256) : (UInt8.ofNat n).toNat = n := by simp; omega

theorem u8_or128' (m : Nat) : bits .or .u8 ((m : Int) % 256) 128 = ((UInt8.ofNat (m % 128 + 128)).toNat : Int) := by
  have h := u8_or_nat (m % 256) 128 (by omega) (by omega)
  rw [or128 _ (by omega)] at h
  rw [u8_toNat (by omega), show m % 128 + 128 = m % 256 % 128 + 128 by omega, ← h]
  simp

theorem div_wrap {m : Nat} (h : U64 m) : IntKind.u64.wrap ((m : Int) / 128) = (m : Int) / 128 := IntWalk.u64_in _ ⟨by omega, by have := h.out; omega⟩

theorem fixedL_len (n : Nat) : (fixedL n).length = 8 := by simp [fixedL]
theorem fixedL_at (n j : Nat) (h : j < 8) : (fixedL n)[j]? = some (UInt8.ofNat (n / 256 ^ (7 - j))) := by simp [fixedL, h]

theorem pow_256 (k : Nat) : 2 ^ (8 * k) = 256 ^ k := by rw [Nat.pow_mul]

theorem fixed_at {a k : Nat} (h : U64 a) (hk : k < 8) : bits .and .u64 ((a : Int) / 2 ^ (56 - 8 * k)) 255 % 256 = ((UInt8.ofNat (a / 256 ^ (7 - k))).toNat : Int) := by
  have e : ((a : Int) / 2 ^ (56 - 8 * k)) = ((a / 256 ^ (7 - k) : Nat) : Int) := by
    rw [← pow_256, show 8 * (7 - k) = 56 - 8 * k by omega]; simp
  rw [e]
  generalize hx : a / 256 ^ (7 - k) = x
  have hx1 : x < 18446744073709551616 := Nat.lt_of_le_of_lt (by rw [← hx]; exact Nat.div_le_self _ _) h.out
  have := u64_and_nat x 255 hx1 (by omega)
  rw [show ((255 : Nat) : Int) = 255 by rfl] at this
  rw [this, show (255 : Nat) = 2 ^ 8 - 1 by rfl, Nat.and_two_pow_sub_one_eq_mod]
  simp

/-- What the array of 'Fixed' holds at place j behind k rounds. -/
def fixAt (a k j : Nat) : Int := if 8 ≤ k + j then ((UInt8.ofNat (a / 256 ^ (7 - j))).toNat : Int) else 0
theorem fixAt_zero {a j : Nat} (h : j < 8) : fixAt a 0 j = 0 := by unfold fixAt; rw [if_neg (by omega)]
theorem fixAt_new {a k : Nat} (h : k < 8) : fixAt a (k + 1) (7 - k) = ((a / 256 ^ k % 256 : Nat) : Int) := by
  unfold fixAt; rw [if_pos (by omega), show 7 - (7 - k) = k by omega]; simp
theorem fixAt_old {a k j : Nat} (h : j ≠ 7 - k) (h7 : j < 8) : fixAt a (k + 1) j = fixAt a k j := by
  unfold fixAt
  by_cases h8 : 8 ≤ k + j
  · rw [if_pos (by omega), if_pos h8]
  · rw [if_neg (by omega), if_neg h8]

/-- May the byte c be the last one of a number's bytes at the place i? -/
def mayLast (i : Nat) (c : UInt8) : Bool := if i = 9 then c == 1 else (i == 0 || c != 0)

theorem byte_eq (c d : UInt8) : ((c.toNat : Int) == (d.toNat : Int)) = (c == d) := by
  rw [Bool.eq_iff_iff]
  simp only [beq_iff_eq, Int.natCast_inj, UInt8.toNat_inj]

theorem mayLast_9 (c : UInt8) : mayLast 9 c = ((c.toNat : Int) == 1) := by
  have := byte_eq c 1
  rw [mayLast, if_pos rfl, ← this]; rfl
theorem mayLast_0 (c : UInt8) : mayLast 0 c = true := by simp [mayLast]
theorem mayLast_m {i : Nat} (h0 : i ≠ 0) (h9 : i ≠ 9) (c : UInt8) : mayLast i c = ((c.toNat : Int) != 0) := by
  have := byte_eq c 0
  rw [mayLast, if_neg h9, bne, bne, ← this]; simp [h0]

/-- The number at the head of l and how many bytes it has; f: how many bytes more may come, i: how many have gone, n: what they say. -/
def getF : Nat → Nat → Nat → List UInt8 → Option (Nat × Nat)
  | 0, _, _, _ => none
  | _ + 1, _, _, [] => none
  | f + 1, i, n, c :: r => if c.toNat < 128 then (if mayLast i c = true then some (n + c.toNat * 128 ^ i, i + 1) else none) else getF f (i + 1) (n + (c.toNat - 128) * 128 ^ i) r

def getL (l : List UInt8) : Option (Nat × Nat) := getF 10 0 0 l

/-- How Get ends. -/
def GetEnd (s : ByteArray) (e : Ending) : Prop :=
  (∃ n k t, getL s.data.toList = some (n, k) ∧ t.data.toList = s.data.toList.drop k ∧ e = .returned (.tuple #[.int .u64 (n : Int), .string t, .bool true])) ∨
  (getL s.data.toList = none ∧ e = .returned (.tuple #[.int .u64 0, .string ⟨#[]⟩, .bool false]))

/-- How the reference's Get ends. -/
def RGetEnd (s : ByteArray) (e : Ending) : Prop :=
  (∃ n k, getL s.data.toList = some (n, k) ∧ e = .returned (.tuple #[.int .u64 (n : Int), .int .i64 (k : Int)])) ∨
  (getL s.data.toList = none ∧ e = .returned (.tuple #[.int .u64 0, .int .i64 0]))

/-- What Get's loop has behind k rounds. -/
structure GetRel (s : ByteArray) (k : Nat) (A : Int) : Prop where
  yes : k < 10 → ∃ acc : Nat, A = acc ∧ (acc < 128 ^ k ∧ getF (10 - k) k acc (s.data.toList.drop k) = getL s.data.toList)
  no : ¬ k < 10 → getL s.data.toList = none

/-- What acc is: the number whose bytes are the first k of l, more behind them or not. -/
def PutInv (l : List UInt8) (k acc : Nat) : Prop := ∀ x, (k = 0 ∨ 1 ≤ x) → putL (acc + x * 128 ^ k) = l.take k ++ putL x

/-- The same for the reference's Get, which holds the bytes against those that are put. -/
structure RGetRel (s : ByteArray) (k : Nat) (A : Int) : Prop where
  yes : k < 10 → ∃ acc : Nat, A = acc ∧ (acc < 128 ^ k ∧ getF (10 - k) k acc (s.data.toList.drop k) = getL s.data.toList ∧ PutInv s.data.toList k acc)
  no : ¬ k < 10 → getL s.data.toList = none

theorem pow_128 (k : Nat) : 2 ^ (7 * k) = 128 ^ k := by rw [Nat.pow_mul]

/-- 'n | uint64(c & 127) << (7 * k)', as the walk writes it. -/
theorem get_or {c : UInt8} {k acc : Nat} (hk : k < 9 ∨ (k = 9 ∧ c.toNat % 128 ≤ 1)) (hacc : acc < 128 ^ k) :
    bits .or .u64 (acc : Int) (IntKind.u64.wrap (IntKind.u64.wrap (bits .and .u8 (c.toNat : Int) 127) * 2 ^ (7 * k))) = ((acc + c.toNat % 128 * 128 ^ k : Nat) : Int) := by
  have hc := UInt8.toNat_lt c
  have e1 : bits .and .u8 (c.toNat : Int) 127 = ((c.toNat % 128 : Nat) : Int) := by
    have h : bits .and .u8 (c.toNat : Int) 127 = (c.toNat : Int) % 128 := bits_mask .u8 8 (by decide) wraps_u8 7 (by decide) _ (by omega) (by omega)
    rw [h]; simp
  have e2 : IntKind.u64.wrap ((c.toNat % 128 : Nat) : Int) = ((c.toNat % 128 : Nat) : Int) := IntWalk.u64_in _ ⟨by omega, by omega⟩
  have hp : 128 ^ k ≤ 128 ^ 9 := Nat.pow_le_pow_right (by omega) (by omega)
  have hx : c.toNat % 128 * 128 ^ k < 18446744073709551616 := by
    rcases hk with hk | ⟨rfl, hk⟩
    · have h8 : 128 ^ k ≤ 128 ^ 8 := Nat.pow_le_pow_right (by omega) (by omega)
      have := Nat.mul_le_mul (show c.toNat % 128 ≤ 127 by omega) h8
      omega
    · have := Nat.mul_le_mul hk (Nat.le_refl (128 ^ 9))
      omega
  have e3 : ((c.toNat % 128 : Nat) : Int) * 2 ^ (7 * k) = ((c.toNat % 128 * 128 ^ k : Nat) : Int) := by
    rw [← pow_128]; simp
  have e4 : IntKind.u64.wrap ((c.toNat % 128 * 128 ^ k : Nat) : Int) = ((c.toNat % 128 * 128 ^ k : Nat) : Int) := IntWalk.u64_in _ ⟨by omega, by omega⟩
  rw [e1, e2, e3, e4, u64_or_nat _ _ (by omega) hx, ← pow_128, Nat.or_comm, Nat.mul_comm (c.toNat % 128), ← Nat.two_pow_add_eq_or_of_lt (by rw [pow_128]; exact hacc)]
  rw [Nat.add_comm]

theorem mayLast_small {k : Nat} {c : UInt8} (h : mayLast k c = true) (hk : k < 10) : k < 9 ∨ (k = 9 ∧ c.toNat % 128 ≤ 1) := by
  by_cases h9 : k = 9
  · subst h9
    simp [mayLast] at h
    subst h
    exact .inr ⟨rfl, by decide⟩
  · exact .inl (by omega)

theorem extract_drop (s : ByteArray) (k : Nat) : (s.extract k s.size).data.toList = s.data.toList.drop k := by
  rw [Lib.extract_data, List.take_of_length_le]; simp

theorem extract_take (s : ByteArray) (k : Nat) : (s.extract 0 k).data.toList = s.data.toList.take k := by
  rw [Lib.extract_data]; simp

theorem text_form (l : List UInt8) (s : ByteArray) : (⟨l.toArray⟩ : ByteArray) ++ s = ⟨(l ++ s.data.toList).toArray⟩ := by
  apply ByteArray.ext
  simp

theorem byte_at {s : ByteArray} {k : Nat} (h : k < s.size) : s.data.toList.drop k = s[k] :: s.data.toList.drop (k + 1) := by
  rw [List.drop_eq_getElem_cons (by simpa using h)]; rfl

theorem byte_end {s : ByteArray} {k : Nat} (h : ¬ k < s.size) : s.data.toList.drop k = [] := List.drop_eq_nil_of_le (by simpa using h)

theorem get_hit {s : ByteArray} {k acc : Nat} (hlt : k < s.size) (h10 : k < 10) (h128 : s[k].toNat < 128) (hm : mayLast k s[k] = true) (h : getF (10 - k) k acc (s.data.toList.drop k) = getL s.data.toList) :
    getL s.data.toList = some (acc + s[k].toNat % 128 * 128 ^ k, k + 1) := by
  rw [← h, byte_at hlt, show 10 - k = (9 - k) + 1 by omega, getF, if_pos h128, if_pos hm, Nat.mod_eq_of_lt h128]

theorem get_not {s : ByteArray} {k acc : Nat} (hlt : k < s.size) (h10 : k < 10) (h128 : s[k].toNat < 128) (hm : mayLast k s[k] = false) (h : getF (10 - k) k acc (s.data.toList.drop k) = getL s.data.toList) :
    getL s.data.toList = none := by
  rw [← h, byte_at hlt, show 10 - k = (9 - k) + 1 by omega, getF, if_pos h128, if_neg (by simp [hm])]

theorem get_end {s : ByteArray} {k acc : Nat} (hlt : ¬ k < s.size) (h10 : k < 10) (h : getF (10 - k) k acc (s.data.toList.drop k) = getL s.data.toList) :
    getL s.data.toList = none := by
  rw [← h, byte_end hlt, show 10 - k = (9 - k) + 1 by omega, getF]

theorem get_next {s : ByteArray} {k acc : Nat} (hlt : k < s.size) (h10 : k < 10) (h128 : ¬ s[k].toNat < 128) (hacc : acc < 128 ^ k) (h : getF (10 - k) k acc (s.data.toList.drop k) = getL s.data.toList) :
    GetRel s (k + 1) (bits .or .u64 (acc : Int) (IntKind.u64.wrap (IntKind.u64.wrap (bits .and .u8 (s[k].toNat : Int) 127) * 2 ^ (7 * k)))) := by
  have hc := UInt8.toNat_lt s[k]
  have e : s[k].toNat - 128 = s[k].toNat % 128 := by omega
  rw [byte_at hlt, show 10 - k = (9 - k) + 1 by omega, getF, if_neg h128, e] at h
  constructor
  · intro h1
    refine ⟨_, get_or (.inl (by omega)) hacc, ?_, ?_⟩
    · rw [Nat.pow_succ]
      have := Nat.mul_le_mul (show s[k].toNat % 128 ≤ 127 by omega) (Nat.le_refl (128 ^ k))
      omega
    · rw [show 10 - (k + 1) = 9 - k by omega]; exact h
  · intro h1
    obtain rfl : k = 9 := by omega
    rw [← h]; rfl

theorem putInv_zero (l : List UInt8) : PutInv l 0 0 := fun x _ => by simp

theorem putL_join (c x : Nat) (h : c < 128) (hx : 1 ≤ x) : putL (c + 128 * x) = UInt8.ofNat (c + 128) :: putL x := by
  rw [putL_ge (by omega), show (c + 128 * x) % 128 = c by omega, show (c + 128 * x) / 128 = x by omega]

theorem take_snoc' {l : List UInt8} {k : Nat} (h : k < l.length) : l.take (k + 1) = l.take k ++ [l[k]] := by
  rw [List.take_succ_eq_append_getElem h]

theorem putInv_next {l : List UInt8} {k acc : Nat} (hk : k < l.length) (h128 : ¬ l[k].toNat < 128) (h : PutInv l k acc) : PutInv l (k + 1) (acc + l[k].toNat % 128 * 128 ^ k) := by
  intro x hx
  have hx1 : 1 ≤ x := by omega
  have hc := UInt8.toNat_lt l[k]
  have e : acc + l[k].toNat % 128 * 128 ^ k + x * 128 ^ (k + 1) = acc + (l[k].toNat % 128 + 128 * x) * 128 ^ k := by
    rw [Nat.pow_succ, Nat.add_mul, Nat.mul_comm 128 x, Nat.mul_assoc x 128, Nat.mul_comm 128 (128 ^ k)]; omega
  rw [e, h _ (.inr (by omega)), putL_join _ _ (by omega) hx1, take_snoc' hk, show l[k].toNat % 128 + 128 = l[k].toNat by omega, UInt8.ofNat_toNat, List.append_assoc]
  rfl

/-- The reference's test: are the bytes read those that are put? -/
theorem rget_or {l : List UInt8} {k acc : Nat} (hk : k < l.length) (h10 : k < 10) (h128 : l[k].toNat < 128) (hacc : acc < 128 ^ k) (h : PutInv l k acc) :
    ∃ x : Nat, bits .or .u64 (acc : Int) (IntKind.u64.wrap ((l[k].toNat : Int) % 128 * 2 ^ (7 * k))) = (x : Int) ∧ U64 x ∧
      (mayLast k l[k] = true → x = acc + l[k].toNat % 128 * 128 ^ k ∧ putL x = l.take (k + 1)) ∧ (mayLast k l[k] = false → putL x ≠ l.take (k + 1)) := by
  have hc := UInt8.toNat_lt l[k]
  generalize hcc : l[k] = c at *
  have hmod : c.toNat % 128 = c.toNat := by omega
  have e2 : ((c.toNat : Int) % 128) = IntKind.u64.wrap (bits .and .u8 (c.toNat : Int) 127) := by
    have h : bits .and .u8 (c.toNat : Int) 127 = (c.toNat : Int) % 128 := bits_mask .u8 8 (by decide) wraps_u8 7 (by decide) _ (by omega) (by omega)
    rw [h]; exact (IntWalk.u64_in _ ⟨by omega, by omega⟩).symm
  rw [e2]
  have hshort : ∀ y, y < 128 ^ k → 1 ≤ k → putL y ≠ l.take (k + 1) := fun y hy h1 e => by
    have h3 := putL_len (k - 1) y (by rw [show k - 1 + 1 = k by omega]; exact hy)
    have := congrArg List.length e
    rw [List.length_take] at this
    omega
  have hbig : acc + c.toNat % 128 * 128 ^ k < 128 ^ (k + 1) := by
    rw [Nat.pow_succ]
    have := Nat.mul_le_mul (show c.toNat % 128 ≤ 127 by omega) (Nat.le_refl (128 ^ k))
    omega
  by_cases hs : k < 9 ∨ (k = 9 ∧ c.toNat % 128 ≤ 1)
  · refine ⟨_, get_or hs hacc, ?_, fun hm => ⟨rfl, ?_⟩, fun hm => ?_⟩
    · have h9 : 128 ^ (k + 1) ≤ 128 ^ 9 ∨ (k = 9 ∧ c.toNat % 128 ≤ 1) := by
        rcases hs with hs | hs
        · exact .inl (Nat.pow_le_pow_right (by omega) (by omega))
        · exact .inr hs
      show _ < _
      rcases h9 with h9 | ⟨rfl, h9⟩
      · omega
      · have := Nat.mul_le_mul h9 (Nat.le_refl (128 ^ 9))
        omega
    · have hx : k = 0 ∨ 1 ≤ c.toNat % 128 := by
        by_cases h0 : k = 0
        · exact .inl h0
        · right
          by_cases h9 : k = 9
          · subst h9
            rw [mayLast_9] at hm
            simp at hm; omega
          · rw [mayLast_m h0 h9] at hm
            simp at hm
            omega
      rw [h _ hx, putL_lt (by omega), take_snoc' hk, hcc, hmod]; simp
    · have h0 : k ≠ 0 := fun e => by subst e; rw [mayLast_0] at hm; cases hm
      have hc0 : c.toNat = 0 := by
        by_cases h9 : k = 9
        · rw [h9, mayLast_9] at hm
          simp at hm
          rcases hs with hs | hs <;> omega
        · rw [mayLast_m h0 h9] at hm
          simpa using hm
      rw [hc0]
      exact hshort _ (by omega) (by omega)
  · have p63 : (2 : Nat) ^ 63 = 9223372036854775808 := by simp
    have p9 : (128 : Nat) ^ 9 = 9223372036854775808 := by simp
    obtain rfl : k = 9 := by omega
    clear hbig
    rw [p9] at hacc
    have e3 : IntKind.u64.wrap (bits .and .u8 (c.toNat : Int) 127) * 2 ^ (7 * 9) = ((c.toNat % 128 : Nat) : Int) * 9223372036854775808 := by
      rw [← e2]; simp
    rw [e3]
    have e4 : IntKind.u64.wrap (((c.toNat % 128 : Nat) : Int) * 9223372036854775808) = ((c.toNat % 2 * 9223372036854775808 : Nat) : Int) := by
      rw [IntKind.wrap_u64]; omega
    have hor := u64_or_nat acc (c.toNat % 2 * 9223372036854775808) (by omega) (by omega)
    have e5 : acc ||| c.toNat % 2 * 9223372036854775808 = acc + c.toNat % 2 * 9223372036854775808 := by
      rw [Nat.or_comm, Nat.mul_comm, ← p63, ← Nat.two_pow_add_eq_or_of_lt (by rw [p63]; exact hacc)]
      omega
    have hlt : U64 (acc + c.toNat % 2 * 9223372036854775808) := by unfold U64; omega
    rw [e5] at hor
    refine ⟨acc + c.toNat % 2 * 9223372036854775808, by rw [e4, hor], hlt, fun hm => ?_, fun hm => ?_⟩
    · exfalso
      rw [mayLast_9] at hm
      simp at hm; omega
    · by_cases hodd : c.toNat % 2 = 0
      · rw [hodd]
        exact hshort _ (by rw [p9]; omega) (by omega)
      · have h1 : c.toNat % 2 = 1 := Nat.mod_two_ne_zero.1 hodd
        rw [h1]
        have := h 1 (.inr (by omega))
        rw [p9] at this
        rw [this, take_snoc' hk, hcc]
        intro e
        have e6 := List.append_cancel_left e
        rw [putL_lt (by omega)] at e6
        injection e6 with e6 _
        subst e6
        simp at hs

theorem rgetRel_zero (s : ByteArray) : RGetRel s 0 0 := ⟨fun _ => ⟨0, rfl, by simp, rfl, putInv_zero _⟩, fun h => absurd (by omega) h⟩

theorem rget_form {c : UInt8} (k : Nat) : IntKind.u64.wrap ((c.toNat : Int) % 128 * 2 ^ (7 * k)) = IntKind.u64.wrap (IntKind.u64.wrap (bits .and .u8 (c.toNat : Int) 127) * 2 ^ (7 * k)) := by
  have hc := UInt8.toNat_lt c
  have h : bits .and .u8 (c.toNat : Int) 127 = (c.toNat : Int) % 128 := bits_mask .u8 8 (by decide) wraps_u8 7 (by decide) _ (by omega) (by omega)
  rw [h, IntWalk.u64_in ((c.toNat : Int) % 128) ⟨by omega, by omega⟩]

theorem rget_next {s : ByteArray} {k acc : Nat} (hlt : k < s.size) (h10 : k < 10) (h128 : ¬ s[k].toNat < 128) (hacc : acc < 128 ^ k) (h : getF (10 - k) k acc (s.data.toList.drop k) = getL s.data.toList) (hp : PutInv s.data.toList k acc) :
    RGetRel s (k + 1) (bits .or .u64 (acc : Int) (IntKind.u64.wrap ((s[k].toNat : Int) % 128 * 2 ^ (7 * k)))) := by
  rw [rget_form]
  have hn := get_next hlt h10 h128 hacc h
  refine ⟨fun h1 => ?_, hn.no⟩
  obtain ⟨a, ha, ha1, ha2⟩ := hn.yes h1
  refine ⟨a, ha, ha1, ha2, ?_⟩
  have e := ha.symm.trans (get_or (.inl (by omega)) hacc)
  have e' : a = acc + s[k].toNat % 128 * 128 ^ k := by exact_mod_cast e
  rw [e']
  exact putInv_next (l := s.data.toList) (by simpa using hlt) h128 hp

theorem getRel_zero (s : ByteArray) : GetRel s 0 0 := ⟨fun _ => ⟨0, rfl, by simp, rfl⟩, fun h => absurd (by omega) h⟩

/-- What Get takes is what Put gives. -/
theorem getF_put (l : List UInt8) : ∀ f k acc n j, f + k = 10 → acc < 128 ^ k → PutInv l k acc → getF f k acc (l.drop k) = some (n, j) → U64 n ∧ putL n = l.take j ∧ j ≤ l.length := by
  intro f
  induction f with
  | zero => intro k acc n j _ _ _ h; cases h
  | succ f ih =>
    intro k acc n j hf hacc hinv h
    by_cases hk : k < l.length
    · rw [List.drop_eq_getElem_cons hk, getF] at h
      by_cases h128 : l[k].toNat < 128
      · rw [if_pos h128] at h
        by_cases hm : mayLast k l[k] = true
        · rw [if_pos hm] at h
          obtain ⟨x, _, hx, hyes, _⟩ := rget_or hk (by omega) h128 hacc hinv
          have hy := hyes hm
          simp only [Option.some.injEq, Prod.mk.injEq] at h
          obtain ⟨rfl, rfl⟩ := h
          rw [Nat.mod_eq_of_lt h128] at hy
          rw [← hy.1]
          exact ⟨hx, hy.2, by omega⟩
        · rw [if_neg hm] at h; cases h
      · rw [if_neg h128] at h
        have hc := UInt8.toNat_lt l[k]
        have e : l[k].toNat - 128 = l[k].toNat % 128 := by omega
        rw [e] at h
        refine ih (k + 1) _ n j (by omega) ?_ (putInv_next hk h128 hinv) h
        rw [Nat.pow_succ]
        have := Nat.mul_le_mul (show l[k].toNat % 128 ≤ 127 by omega) (Nat.le_refl (128 ^ k))
        omega
    · rw [List.drop_eq_nil_of_le (by omega), getF] at h; cases h

theorem getL_put {l : List UInt8} {n k : Nat} (h : getL l = some (n, k)) : U64 n ∧ putL n = l.take k ∧ k ≤ l.length :=
  getF_put l 10 0 0 n k rfl (by simp) (putInv_zero l) (by simpa [getL] using h)

theorem getL_pos {l : List UInt8} {n k : Nat} (h : getL l = some (n, k)) : 1 ≤ k ∧ k ≤ l.length := by
  obtain ⟨_, h1, h2⟩ := getL_put h
  refine ⟨?_, h2⟩
  have := putL_pos n
  rw [h1, List.length_take] at this
  omega

theorem u64_small {acc n k : Nat} (h : U64 (acc + n * 128 ^ k)) (hk : 9 ≤ k) : n < 2 := by
  have h1 := h.out
  have h2 : 128 ^ 9 ≤ 128 ^ k := Nat.pow_le_pow_right (by omega) hk
  have p9 : (128 : Nat) ^ 9 = 9223372036854775808 := by simp
  rw [p9] at h2
  have h3 := Nat.mul_le_mul_left n h2
  omega

/-- What Put gives Get takes. -/
theorem getF_of_put (r : List UInt8) : ∀ f k acc n, f + k = 10 → (k = 0 ∨ 1 ≤ n) → U64 (acc + n * 128 ^ k) → 1 ≤ f → getF f k acc (putL n ++ r) = some (acc + n * 128 ^ k, k + (putL n).length) := by
  intro f
  induction f with
  | zero => intro k acc n _ _ _ h; omega
  | succ f ih =>
    intro k acc n hf hn hu _
    by_cases h128 : n < 128
    · have hb : (UInt8.ofNat n).toNat = n := u8_toNat (by omega)
      have hm : mayLast k (UInt8.ofNat n) = true := by
        by_cases h0 : k = 0
        · subst h0; exact mayLast_0 _
        · by_cases h9 : k = 9
          · have := u64_small hu (by omega)
            obtain rfl : n = 1 := by omega
            subst h9; rfl
          · rw [mayLast_m h0 h9, hb]
            have : n ≠ 0 := by omega
            simpa using this
      rw [putL_lt h128, List.singleton_append, getF, hb, if_pos h128, if_pos hm]; rfl
    · have hb : (UInt8.ofNat (n % 128 + 128)).toNat = n % 128 + 128 := u8_toNat (by omega)
      have hk : k < 9 := by
        rcases Nat.lt_or_ge k 9 with h | h
        · exact h
        · have := u64_small hu h; omega
      have e : acc + n % 128 * 128 ^ k + n / 128 * 128 ^ (k + 1) = acc + n * 128 ^ k := by
        rw [Nat.pow_succ, Nat.mul_comm (128 ^ k) 128, ← Nat.mul_assoc, Nat.add_assoc, ← Nat.add_mul]
        congr 2; omega
      have := ih (k + 1) (acc + n % 128 * 128 ^ k) (n / 128) (by omega) (.inr (by omega)) (by rw [e]; exact hu) (by omega)
      rw [putL_ge (by omega), List.cons_append, getF, hb, if_neg (by omega), show n % 128 + 128 - 128 = n % 128 by omega, this, e]
      simp only [List.length_cons]
      congr 2; omega

theorem getL_of_put {n : Nat} (h : U64 n) (r : List UInt8) : getL (putL n ++ r) = some (n, (putL n).length) := by
  have := getF_of_put r 10 0 0 n rfl (.inl rfl) (by simpa using h) (by omega)
  simpa [getL] using this

/-- k digits in base 256, the most significant first. -/
def dig : Nat → Nat → List UInt8
  | 0, _ => []
  | k + 1, n => UInt8.ofNat (n / 256 ^ k) :: dig k n

theorem dig_less : ∀ k n m, Op.bytesLess (dig k n) (dig k m) = decide (n % 256 ^ k < m % 256 ^ k) ∧ (dig k n = dig k m ↔ n % 256 ^ k = m % 256 ^ k) := by
  intro k
  induction k with
  | zero => intro n m; simp [dig, Op.bytesLess, Nat.mod_one]
  | succ k ih =>
    intro n m
    have hp : 0 < 256 ^ k := Nat.pow_pos (by omega)
    have key : ∀ x, x % 256 ^ (k + 1) = x % 256 ^ k + 256 ^ k * (x / 256 ^ k % 256) := fun x => by rw [Nat.pow_succ, Nat.mod_mul]
    have ln := Nat.mod_lt n hp
    have lm := Nat.mod_lt m hp
    obtain ⟨i1, i2⟩ := ih n m
    rw [key n, key m]
    generalize hX : n / 256 ^ k % 256 = X at *
    generalize hY : m / 256 ^ k % 256 = Y at *
    generalize n % 256 ^ k = a at *
    generalize m % 256 ^ k = b at *
    have eX : (UInt8.ofNat (n / 256 ^ k)).toNat = X := by simpa using hX
    have eY : (UInt8.ofNat (m / 256 ^ k)).toNat = Y := by simpa using hY
    have cmp : X < Y → a + 256 ^ k * X < b + 256 ^ k * Y := fun h => by
      have := Nat.mul_le_mul_left (256 ^ k) (show X + 1 ≤ Y from h)
      rw [Nat.mul_add] at this; omega
    have cmp' : Y < X → b + 256 ^ k * Y < a + 256 ^ k * X := fun h => by
      have := Nat.mul_le_mul_left (256 ^ k) (show Y + 1 ≤ X from h)
      rw [Nat.mul_add] at this; omega
    have hb : (UInt8.ofNat (n / 256 ^ k) = UInt8.ofNat (m / 256 ^ k)) ↔ X = Y := by rw [← UInt8.toNat_inj, eX, eY]
    have hl : (UInt8.ofNat (n / 256 ^ k) < UInt8.ofNat (m / 256 ^ k)) ↔ X < Y := by rw [UInt8.lt_iff_toNat_lt, eX, eY]
    constructor
    · rw [dig, dig, Op.bytesLess, i1, Bool.eq_iff_iff]
      simp only [Bool.or_eq_true, decide_eq_true_eq, Bool.and_eq_true, beq_iff_eq, hb, hl]
      constructor
      · rintro (h | ⟨rfl, h⟩)
        · exact cmp h
        · omega
      · intro h
        rcases Nat.lt_trichotomy X Y with h1 | rfl | h1
        · exact .inl h1
        · exact .inr ⟨rfl, by omega⟩
        · have := cmp' h1; omega
    · rw [dig, dig, List.cons.injEq, hb, i2]
      constructor
      · rintro ⟨rfl, rfl⟩; rfl
      · intro h
        rcases Nat.lt_trichotomy X Y with h1 | rfl | h1
        · have := cmp h1; omega
        · exact ⟨rfl, by omega⟩
        · have := cmp' h1; omega

theorem fixedL_dig (n : Nat) : fixedL n = dig 8 n := rfl

theorem p256 : (256 : Nat) ^ 8 = 18446744073709551616 := by simp

theorem fixed_less {a b : Nat} (ha : U64 a) (hb : U64 b) : Op.bytesLess (fixedL a) (fixedL b) = decide (a < b) := by
  rw [fixedL_dig, fixedL_dig, (dig_less 8 a b).1, p256, Nat.mod_eq_of_lt ha.out, Nat.mod_eq_of_lt hb.out]

theorem fixed_eq {a b : Nat} (ha : U64 a) (hb : U64 b) : fixedL a = fixedL b ↔ a = b := by
  rw [fixedL_dig, fixedL_dig, (dig_less 8 a b).2, p256, Nat.mod_eq_of_lt ha.out, Nat.mod_eq_of_lt hb.out]

theorem fixed_beq {a b : Nat} (ha : U64 a) (hb : U64 b) : (fixedL a == fixedL b) = ((a : Int) == (b : Int)) := by
  rw [Bool.eq_iff_iff, beq_iff_eq, fixed_eq ha hb, beq_iff_eq, Int.natCast_inj]

theorem below_next {B : Nat} {a b c : World} (h : Below B a b) (hB : B ≤ a.heap.size) (k : Below b.heap.size b c) : Below B a c := h.trans (k.mono (Nat.le_trans hB h.size))

end Go.Proofs.Ytlkfpeefjpmmfaa

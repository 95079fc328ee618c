/- Joined: M01 M01r M01t M01i W00 W01 W01b W01c R01 R01c R01i W01e W01r W01s W01t. -/
import Derived.WalkKit
import Derived.Lib.Strings
import Derived.Lib.Hide
import Derived.OpenShut
import Derived.WalkSmall
import Derived.SliceStrings
import Derived.Test.YthliofijioghkaaRows
import Derived.Laws.IdiomStrings
import Derived.Outline
import Derived.Deep.QuietTactic
import Derived.BigQuiet
import Derived.Deep.RegionWith

namespace Go.Proofs.Ythliofijioghkaa
open Go.RowKit
set_option linter.unusedVariables false

/-- A byte as a value. -/
def bv (b : UInt8) : Value := .int .u8 (b.toNat : Int)

/-- The bytes of a number in base 128. -/
def putL (n : Nat) : List UInt8 := if n < 128 then [UInt8.ofNat n] else UInt8.ofNat (n % 128 + 128) :: putL (n / 128)
termination_by n
decreasing_by omega

theorem putL_lt {n : Nat} (h : n < 128) : putL n = [UInt8.ofNat n] := by rw [putL, if_pos h]
theorem putL_ge {n : Nat} (h : 128 ≤ n) : putL n = UInt8.ofNat (n % 128 + 128) :: putL (n / 128) := by rw [putL, if_neg (by omega)]

theorem putL_pos (n : Nat) : 1 ≤ (putL n).length := by
  by_cases h : n < 128
  · rw [putL_lt h]; simp
  · rw [putL_ge (by omega)]; simp

theorem putL_len (k : Nat) : ∀ n : Nat, n < 128 ^ (k + 1) → (putL n).length ≤ k + 1 := by
  induction k with
  | zero => intro n h; rw [putL_lt (by simpa using h)]; simp
  | succ k ih =>
    intro n h
    by_cases h1 : n < 128
    · rw [putL_lt h1]; simp
    · rw [putL_ge (by omega)]
      have := ih (n / 128) (by rw [Nat.pow_succ] at h; omega)
      simp; omega

/-- Eight bytes, the most significant first. -/
def fixedL (n : Nat) : List UInt8 := (List.range 8).map fun j => UInt8.ofNat (n / 256 ^ (7 - j))

/-- A number of 64 bits: behind a name. -/
def U64 (n : Nat) : Prop := n < 18446744073709551616
theorem U64.out {n : Nat} (h : U64 n) : n < 18446744073709551616 := h
theorem U64.le {n m : Nat} (h : U64 n) (k : m ≤ n) : U64 m := Nat.lt_of_le_of_lt k h

theorem u64_nat {a : Int} (h : (Lit.int .u64 a).wf = true) : ∃ n : Nat, a = (n : Int) ∧ U64 n := by
  have hb := bounds_u64 h
  refine ⟨a.toNat, by omega, ?_⟩
  unfold U64; omega

theorem putL_len10 {n : Nat} (h : U64 n) : (putL n).length ≤ 10 := by
  have := putL_len 9 n (by have := h.out; simp; omega)
  omega

theorem or128 : ∀ x : Nat, x < 256 → x ||| 128 = x % 128 + 128 := by decide +kernel

theorem u8_toNat {n : Nat} (h : n < 256) : (UInt8.ofNat n).toNat = n := by simp; omega

theorem u8_or128' (m : Nat) : bits .or .u8 ((m : Int) % 256) 128 = ((UInt8.ofNat (m % 128 + 128)).toNat : Int) := by
  have h := u8_or_nat (m % 256) 128 (by omega) (by omega)
  rw [or128 _ (by omega)] at h
  rw [u8_toNat (by omega), show m % 128 + 128 = m % 256 % 128 + 128 by omega, ← h]
  simp

theorem div_wrap {m : Nat} (h : U64 m) : IntKind.u64.wrap ((m : Int) / 128) = (m : Int) / 128 := IntWalk.u64_in _ ⟨by omega, by have := h.out; omega⟩

theorem fixedL_len (n : Nat) : (fixedL n).length = 8 := by simp [fixedL]
theorem fixedL_at (n j : Nat) (h : j < 8) : (fixedL n)[j]? = some (UInt8.ofNat (n / 256 ^ (7 - j))) := by simp [fixedL, h]

theorem pow_256 (k : Nat) : 2 ^ (8 * k) = 256 ^ k := by rw [Nat.pow_mul]

theorem fixed_at {a k : Nat} (h : U64 a) (hk : k < 8) : bits .and .u64 ((a : Int) / 2 ^ (56 - 8 * k)) 255 % 256 = ((UInt8.ofNat (a / 256 ^ (7 - k))).toNat : Int) := by
  have e : ((a : Int) / 2 ^ (56 - 8 * k)) = ((a / 256 ^ (7 - k) : Nat) : Int) := by
    rw [← pow_256, show 8 * (7 - k) = 56 - 8 * k by omega]; simp
  rw [e]
  generalize hx : a / 256 ^ (7 - k) = x
  have hx1 : x < 18446744073709551616 := Nat.lt_of_le_of_lt (by rw [← hx]; exact Nat.div_le_self _ _) h.out
  have := u64_and_nat x 255 hx1 (by omega)
  rw [show ((255 : Nat) : Int) = 255 by rfl] at this
  rw [this, show (255 : Nat) = 2 ^ 8 - 1 by rfl, Nat.and_two_pow_sub_one_eq_mod]
  simp

/-- What the array of 'Fixed' holds at place j behind k rounds. -/
def fixAt (a k j : Nat) : Int := if 8 ≤ k + j then ((UInt8.ofNat (a / 256 ^ (7 - j))).toNat : Int) else 0
theorem fixAt_zero {a j : Nat} (h : j < 8) : fixAt a 0 j = 0 := by unfold fixAt; rw [if_neg (by omega)]
theorem fixAt_new {a k : Nat} (h : k < 8) : fixAt a (k + 1) (7 - k) = ((a / 256 ^ k % 256 : Nat) : Int) := by
  unfold fixAt; rw [if_pos (by omega), show 7 - (7 - k) = k by omega]; simp
theorem fixAt_old {a k j : Nat} (h : j ≠ 7 - k) (h7 : j < 8) : fixAt a (k + 1) j = fixAt a k j := by
  unfold fixAt
  by_cases h8 : 8 ≤ k + j
  · rw [if_pos (by omega), if_pos h8]
  · rw [if_neg (by omega), if_neg h8]

/-- May the byte c be the last one of a number's bytes at the place i? -/
def mayLast (i : Nat) (c : UInt8) : Bool := if i = 9 then c == 1 else (i == 0 || c != 0)

theorem byte_eq (c d : UInt8) : ((c.toNat : Int) == (d.toNat : Int)) = (c == d) := by
  rw [Bool.eq_iff_iff]
  simp only [beq_iff_eq, Int.natCast_inj, UInt8.toNat_inj]

theorem mayLast_9 (c : UInt8) : mayLast 9 c = ((c.toNat : Int) == 1) := by
  have := byte_eq c 1
  rw [mayLast, if_pos rfl, ← this]; rfl
theorem mayLast_0 (c : UInt8) : mayLast 0 c = true := by simp [mayLast]
theorem mayLast_m {i : Nat} (h0 : i ≠ 0) (h9 : i ≠ 9) (c : UInt8) : mayLast i c = ((c.toNat : Int) != 0) := by
  have := byte_eq c 0
  rw [mayLast, if_neg h9, bne, bne, ← this]; simp [h0]

/-- The number at the head of l and how many bytes it has; f: how many bytes more may come, i: how many have gone, n: what they say. -/
def getF : Nat → Nat → Nat → List UInt8 → Option (Nat × Nat)
  | 0, _, _, _ => none
  | _ + 1, _, _, [] => none
  | f + 1, i, n, c :: r => if c.toNat < 128 then (if mayLast i c = true then some (n + c.toNat * 128 ^ i, i + 1) else none) else getF f (i + 1) (n + (c.toNat - 128) * 128 ^ i) r

def getL (l : List UInt8) : Option (Nat × Nat) := getF 10 0 0 l

/-- How Get ends. -/
def GetEnd (s : ByteArray) (e : Ending) : Prop :=
  (∃ n k t, getL s.data.toList = some (n, k) ∧ t.data.toList = s.data.toList.drop k ∧ e = .returned (.tuple #[.int .u64 (n : Int), .string t, .bool true])) ∨
  (getL s.data.toList = none ∧ e = .returned (.tuple #[.int .u64 0, .string ⟨#[]⟩, .bool false]))

/-- How the reference's Get ends. -/
def RGetEnd (s : ByteArray) (e : Ending) : Prop :=
  (∃ n k, getL s.data.toList = some (n, k) ∧ e = .returned (.tuple #[.int .u64 (n : Int), .int .i64 (k : Int)])) ∨
  (getL s.data.toList = none ∧ e = .returned (.tuple #[.int .u64 0, .int .i64 0]))

/-- What Get's loop has behind k rounds. -/
structure GetRel (s : ByteArray) (k : Nat) (A : Int) : Prop where
  yes : k < 10 → ∃ acc : Nat, A = acc ∧ (acc < 128 ^ k ∧ getF (10 - k) k acc (s.data.toList.drop k) = getL s.data.toList)
  no : ¬ k < 10 → getL s.data.toList = none

/-- What acc is: the number whose bytes are the first k of l, more behind them or not. -/
def PutInv (l : List UInt8) (k acc : Nat) : Prop := ∀ x, (k = 0 ∨ 1 ≤ x) → putL (acc + x * 128 ^ k) = l.take k ++ putL x

/-- The same for the reference's Get, which holds the bytes against those that are put. -/
structure RGetRel (s : ByteArray) (k : Nat) (A : Int) : Prop where
  yes : k < 10 → ∃ acc : Nat, A = acc ∧ (acc < 128 ^ k ∧ getF (10 - k) k acc (s.data.toList.drop k) = getL s.data.toList ∧ PutInv s.data.toList k acc)
  no : ¬ k < 10 → getL s.data.toList = none

theorem pow_128 (k : Nat) : 2 ^ (7 * k) = 128 ^ k := by rw [Nat.pow_mul]

/-- 'n | uint64(c & 127) << (7 * k)', as the walk writes it. -/
theorem get_or {c : UInt8} {k acc : Nat} (hk : k < 9 ∨ (k = 9 ∧ c.toNat % 128 ≤ 1)) (hacc : acc < 128 ^ k) :
    bits .or .u64 (acc : Int) (IntKind.u64.wrap (IntKind.u64.wrap (bits .and .u8 (c.toNat : Int) 127) * 2 ^ (7 * k))) = ((acc + c.toNat % 128 * 128 ^ k : Nat) : Int) := by
  have hc := UInt8.toNat_lt c
  have e1 : bits .and .u8 (c.toNat : Int) 127 = ((c.toNat % 128 : Nat) : Int) := by
    have h : bits .and .u8 (c.toNat : Int) 127 = (c.toNat : Int) % 128 := bits_mask .u8 8 (by decide) wraps_u8 7 (by decide) _ (by omega) (by omega)
    rw [h]; simp
  have e2 : IntKind.u64.wrap ((c.toNat % 128 : Nat) : Int) = ((c.toNat % 128 : Nat) : Int) := IntWalk.u64_in _ ⟨by omega, by omega⟩
  have hp : 128 ^ k ≤ 128 ^ 9 := Nat.pow_le_pow_right (by omega) (by omega)
  have hx : c.toNat % 128 * 128 ^ k < 18446744073709551616 := by
    rcases hk with hk | ⟨rfl, hk⟩
    · have h8 : 128 ^ k ≤ 128 ^ 8 := Nat.pow_le_pow_right (by omega) (by omega)
      have := Nat.mul_le_mul (show c.toNat % 128 ≤ 127 by omega) h8
      omega
    · have := Nat.mul_le_mul hk (Nat.le_refl (128 ^ 9))
      omega
  have e3 : ((c.toNat % 128 : Nat) : Int) * 2 ^ (7 * k) = ((c.toNat % 128 * 128 ^ k : Nat) : Int) := by
    rw [← pow_128]; simp
  have e4 : IntKind.u64.wrap ((c.toNat % 128 * 128 ^ k : Nat) : Int) = ((c.toNat % 128 * 128 ^ k : Nat) : Int) := IntWalk.u64_in _ ⟨by omega, by omega⟩
  rw [e1, e2, e3, e4, u64_or_nat _ _ (by omega) hx, ← pow_128, Nat.or_comm, Nat.mul_comm (c.toNat % 128), ← Nat.two_pow_add_eq_or_of_lt (by rw [pow_128]; exact hacc)]
  rw [Nat.add_comm]

theorem mayLast_small {k : Nat} {c : UInt8} (h : mayLast k c = true) (hk : k < 10) : k < 9 ∨ (k = 9 ∧ c.toNat % 128 ≤ 1) := by
  by_cases h9 : k = 9
  · subst h9
    simp [mayLast] at h
    subst h
    exact .inr ⟨rfl, by decide⟩
  · exact .inl (by omega)

theorem extract_drop (s : ByteArray) (k : Nat) : (s.extract k s.size).data.toList = s.data.toList.drop k := by
  rw [Lib.extract_data, List.take_of_length_le]; simp

theorem extract_take (s : ByteArray) (k : Nat) : (s.extract 0 k).data.toList = s.data.toList.take k := by
  rw [Lib.extract_data]; simp

theorem text_form (l : List UInt8) (s : ByteArray) : (⟨l.toArray⟩ : ByteArray) ++ s = ⟨(l ++ s.data.toList).toArray⟩ := by
  apply ByteArray.ext
  simp

theorem byte_at {s : ByteArray} {k : Nat} (h : k < s.size) : s.data.toList.drop k = s[k] :: s.data.toList.drop (k + 1) := by
  rw [List.drop_eq_getElem_cons (by simpa using h)]; rfl

theorem byte_end {s : ByteArray} {k : Nat} (h : ¬ k < s.size) : s.data.toList.drop k = [] := List.drop_eq_nil_of_le (by simpa using h)

theorem get_hit {s : ByteArray} {k acc : Nat} (hlt : k < s.size) (h10 : k < 10) (h128 : s[k].toNat < 128) (hm : mayLast k s[k] = true) (h : getF (10 - k) k acc (s.data.toList.drop k) = getL s.data.toList) :
    getL s.data.toList = some (acc + s[k].toNat % 128 * 128 ^ k, k + 1) := by
  rw [← h, byte_at hlt, show 10 - k = (9 - k) + 1 by omega, getF, if_pos h128, if_pos hm, Nat.mod_eq_of_lt h128]

theorem get_not {s : ByteArray} {k acc : Nat} (hlt : k < s.size) (h10 : k < 10) (h128 : s[k].toNat < 128) (hm : mayLast k s[k] = false) (h : getF (10 - k) k acc (s.data.toList.drop k) = getL s.data.toList) :
    getL s.data.toList = none := by
  rw [← h, byte_at hlt, show 10 - k = (9 - k) + 1 by omega, getF, if_pos h128, if_neg (by simp [hm])]

theorem get_end {s : ByteArray} {k acc : Nat} (hlt : ¬ k < s.size) (h10 : k < 10) (h : getF (10 - k) k acc (s.data.toList.drop k) = getL s.data.toList) :
    getL s.data.toList = none := by
  rw [← h, byte_end hlt, show 10 - k = (9 - k) + 1 by omega, getF]

theorem get_next {s : ByteArray} {k acc : Nat} (hlt : k < s.size) (h10 : k < 10) (h128 : ¬ s[k].toNat < 128) (hacc : acc < 128 ^ k) (h : getF (10 - k) k acc (s.data.toList.drop k) = getL s.data.toList) :
    GetRel s (k + 1) (bits .or .u64 (acc : Int) (IntKind.u64.wrap (IntKind.u64.wrap (bits .and .u8 (s[k].toNat : Int) 127) * 2 ^ (7 * k)))) := by
  have hc := UInt8.toNat_lt s[k]
  have e : s[k].toNat - 128 = s[k].toNat % 128 := by omega
  rw [byte_at hlt, show 10 - k = (9 - k) + 1 by omega, getF, if_neg h128, e] at h
  constructor
  · intro h1
    refine ⟨_, get_or (.inl (by omega)) hacc, ?_, ?_⟩
    · rw [Nat.pow_succ]
      have := Nat.mul_le_mul (show s[k].toNat % 128 ≤ 127 by omega) (Nat.le_refl (128 ^ k))
      omega
    · rw [show 10 - (k + 1) = 9 - k by omega]; exact h
  · intro h1
    obtain rfl : k = 9 := by omega
    rw [← h]; rfl

theorem putInv_zero (l : List UInt8) : PutInv l 0 0 := fun x _ => by simp

theorem putL_join (c x : Nat) (h : c < 128) (hx : 1 ≤ x) : putL (c + 128 * x) = UInt8.ofNat (c + 128) :: putL x := by
  rw [putL_ge (by omega), show (c + 128 * x) % 128 = c by omega, show (c + 128 * x) / 128 = x by omega]

theorem take_snoc' {l : List UInt8} {k : Nat} (h : k < l.length) : l.take (k + 1) = l.take k ++ [l[k]] := by
  rw [List.take_succ_eq_append_getElem h]

theorem putInv_next {l : List UInt8} {k acc : Nat} (hk : k < l.length) (h128 : ¬ l[k].toNat < 128) (h : PutInv l k acc) : PutInv l (k + 1) (acc + l[k].toNat % 128 * 128 ^ k) := by
  intro x hx
  have hx1 : 1 ≤ x := by omega
  have hc := UInt8.toNat_lt l[k]
  have e : acc + l[k].toNat % 128 * 128 ^ k + x * 128 ^ (k + 1) = acc + (l[k].toNat % 128 + 128 * x) * 128 ^ k := by
    rw [Nat.pow_succ, Nat.add_mul, Nat.mul_comm 128 x, Nat.mul_assoc x 128, Nat.mul_comm 128 (128 ^ k)]; omega
  rw [e, h _ (.inr (by omega)), putL_join _ _ (by omega) hx1, take_snoc' hk, show l[k].toNat % 128 + 128 = l[k].toNat by omega, UInt8.ofNat_toNat, List.append_assoc]
  rfl

/-- The reference's test: are the bytes read those that are put? -/
theorem rget_or {l : List UInt8} {k acc : Nat} (hk : k < l.length) (h10 : k < 10) (h128 : l[k].toNat < 128) (hacc : acc < 128 ^ k) (h : PutInv l k acc) :
    ∃ x : Nat, bits .or .u64 (acc : Int) (IntKind.u64.wrap ((l[k].toNat : Int) % 128 * 2 ^ (7 * k))) = (x : Int) ∧ U64 x ∧
      (mayLast k l[k] = true → x = acc + l[k].toNat % 128 * 128 ^ k ∧ putL x = l.take (k + 1)) ∧ (mayLast k l[k] = false → putL x ≠ l.take (k + 1)) := by
  have hc := UInt8.toNat_lt l[k]
  generalize hcc : l[k] = c at *
  have hmod : c.toNat % 128 = c.toNat := by omega
  have e2 : ((c.toNat : Int) % 128) = IntKind.u64.wrap (bits .and .u8 (c.toNat : Int) 127) := by
    have h : bits .and .u8 (c.toNat : Int) 127 = (c.toNat : Int) % 128 := bits_mask .u8 8 (by decide) wraps_u8 7 (by decide) _ (by omega) (by omega)
    rw [h]; exact (IntWalk.u64_in _ ⟨by omega, by omega⟩).symm
  rw [e2]
  have hshort : ∀ y, y < 128 ^ k → 1 ≤ k → putL y ≠ l.take (k + 1) := fun y hy h1 e => by
    have h3 := putL_len (k - 1) y (by rw [show k - 1 + 1 = k by omega]; exact hy)
    have := congrArg List.length e
    rw [List.length_take] at this
    omega
  have hbig : acc + c.toNat % 128 * 128 ^ k < 128 ^ (k + 1) := by
    rw [Nat.pow_succ]
    have := Nat.mul_le_mul (show c.toNat % 128 ≤ 127 by omega) (Nat.le_refl (128 ^ k))
    omega
  by_cases hs : k < 9 ∨ (k = 9 ∧ c.toNat % 128 ≤ 1)
  · refine ⟨_, get_or hs hacc, ?_, fun hm => ⟨rfl, ?_⟩, fun hm => ?_⟩
    · have h9 : 128 ^ (k + 1) ≤ 128 ^ 9 ∨ (k = 9 ∧ c.toNat % 128 ≤ 1) := by
        rcases hs with hs | hs
        · exact .inl (Nat.pow_le_pow_right (by omega) (by omega))
        · exact .inr hs
      show _ < _
      rcases h9 with h9 | ⟨rfl, h9⟩
      · omega
      · have := Nat.mul_le_mul h9 (Nat.le_refl (128 ^ 9))
        omega
    · have hx : k = 0 ∨ 1 ≤ c.toNat % 128 := by
        by_cases h0 : k = 0
        · exact .inl h0
        · right
          by_cases h9 : k = 9
          · subst h9
            rw [mayLast_9] at hm
            simp at hm; omega
          · rw [mayLast_m h0 h9] at hm
            simp at hm
            omega
      rw [h _ hx, putL_lt (by omega), take_snoc' hk, hcc, hmod]; simp
    · have h0 : k ≠ 0 := fun e => by subst e; rw [mayLast_0] at hm; cases hm
      have hc0 : c.toNat = 0 := by
        by_cases h9 : k = 9
        · rw [h9, mayLast_9] at hm
          simp at hm
          rcases hs with hs | hs <;> omega
        · rw [mayLast_m h0 h9] at hm
          simpa using hm
      rw [hc0]
      exact hshort _ (by omega) (by omega)
  · have p63 : (2 : Nat) ^ 63 = 9223372036854775808 := by simp
    have p9 : (128 : Nat) ^ 9 = 9223372036854775808 := by simp
    obtain rfl : k = 9 := by omega
    clear hbig
    rw [p9] at hacc
    have e3 : IntKind.u64.wrap (bits .and .u8 (c.toNat : Int) 127) * 2 ^ (7 * 9) = ((c.toNat % 128 : Nat) : Int) * 9223372036854775808 := by
      rw [← e2]; simp
    rw [e3]
    have e4 : IntKind.u64.wrap (((c.toNat % 128 : Nat) : Int) * 9223372036854775808) = ((c.toNat % 2 * 9223372036854775808 : Nat) : Int) := by
      rw [IntKind.wrap_u64]; omega
    have hor := u64_or_nat acc (c.toNat % 2 * 9223372036854775808) (by omega) (by omega)
    have e5 : acc ||| c.toNat % 2 * 9223372036854775808 = acc + c.toNat % 2 * 9223372036854775808 := by
      rw [Nat.or_comm, Nat.mul_comm, ← p63, ← Nat.two_pow_add_eq_or_of_lt (by rw [p63]; exact hacc)]
      omega
    have hlt : U64 (acc + c.toNat % 2 * 9223372036854775808) := by unfold U64; omega
    rw [e5] at hor
    refine ⟨acc + c.toNat % 2 * 9223372036854775808, by rw [e4, hor], hlt, fun hm => ?_, fun hm => ?_⟩
    · exfalso
      rw [mayLast_9] at hm
      simp at hm; omega
    · by_cases hodd : c.toNat % 2 = 0
      · rw [hodd]
        exact hshort _ (by rw [p9]; omega) (by omega)
      · have h1 : c.toNat % 2 = 1 := Nat.mod_two_ne_zero.1 hodd
        rw [h1]
        have := h 1 (.inr (by omega))
        rw [p9] at this
        rw [this, take_snoc' hk, hcc]
        intro e
        have e6 := List.append_cancel_left e
        rw [putL_lt (by omega)] at e6
        injection e6 with e6 _
        subst e6
        simp at hs

theorem rgetRel_zero (s : ByteArray) : RGetRel s 0 0 := ⟨fun _ => ⟨0, rfl, by simp, rfl, putInv_zero _⟩, fun h => absurd (by omega) h⟩

theorem rget_form {c : UInt8} (k : Nat) : IntKind.u64.wrap ((c.toNat : Int) % 128 * 2 ^ (7 * k)) = IntKind.u64.wrap (IntKind.u64.wrap (bits .and .u8 (c.toNat : Int) 127) * 2 ^ (7 * k)) := by
  have hc := UInt8.toNat_lt c
  have h : bits .and .u8 (c.toNat : Int) 127 = (c.toNat : Int) % 128 := bits_mask .u8 8 (by decide) wraps_u8 7 (by decide) _ (by omega) (by omega)
  rw [h, IntWalk.u64_in ((c.toNat : Int) % 128) ⟨by omega, by omega⟩]

theorem rget_next {s : ByteArray} {k acc : Nat} (hlt : k < s.size) (h10 : k < 10) (h128 : ¬ s[k].toNat < 128) (hacc : acc < 128 ^ k) (h : getF (10 - k) k acc (s.data.toList.drop k) = getL s.data.toList) (hp : PutInv s.data.toList k acc) :
    RGetRel s (k + 1) (bits .or .u64 (acc : Int) (IntKind.u64.wrap ((s[k].toNat : Int) % 128 * 2 ^ (7 * k)))) := by
  rw [rget_form]
  have hn := get_next hlt h10 h128 hacc h
  refine ⟨fun h1 => ?_, hn.no⟩
  obtain ⟨a, ha, ha1, ha2⟩ := hn.yes h1
  refine ⟨a, ha, ha1, ha2, ?_⟩
  have e := ha.symm.trans (get_or (.inl (by omega)) hacc)
  have e' : a = acc + s[k].toNat % 128 * 128 ^ k := by exact_mod_cast e
  rw [e']
  exact putInv_next (l := s.data.toList) (by simpa using hlt) h128 hp

theorem getRel_zero (s : ByteArray) : GetRel s 0 0 := ⟨fun _ => ⟨0, rfl, by simp, rfl⟩, fun h => absurd (by omega) h⟩

/-- What Get takes is what Put gives. -/
theorem getF_put (l : List UInt8) : ∀ f k acc n j, f + k = 10 → acc < 128 ^ k → PutInv l k acc → getF f k acc (l.drop k) = some (n, j) → U64 n ∧ putL n = l.take j ∧ j ≤ l.length := by
  intro f
  induction f with
  | zero => intro k acc n j _ _ _ h; cases h
  | succ f ih =>
    intro k acc n j hf hacc hinv h
    by_cases hk : k < l.length
    · rw [List.drop_eq_getElem_cons hk, getF] at h
      by_cases h128 : l[k].toNat < 128
      · rw [if_pos h128] at h
        by_cases hm : mayLast k l[k] = true
        · rw [if_pos hm] at h
          obtain ⟨x, _, hx, hyes, _⟩ := rget_or hk (by omega) h128 hacc hinv
          have hy := hyes hm
          simp only [Option.some.injEq, Prod.mk.injEq] at h
          obtain ⟨rfl, rfl⟩ := h
          rw [Nat.mod_eq_of_lt h128] at hy
          rw [← hy.1]
          exact ⟨hx, hy.2, by omega⟩
        · rw [if_neg hm] at h; cases h
      · rw [if_neg h128] at h
        have hc := UInt8.toNat_lt l[k]
        have e : l[k].toNat - 128 = l[k].toNat % 128 := by omega
        rw [e] at h
        refine ih (k + 1) _ n j (by omega) ?_ (putInv_next hk h128 hinv) h
        rw [Nat.pow_succ]
        have := Nat.mul_le_mul (show l[k].toNat % 128 ≤ 127 by omega) (Nat.le_refl (128 ^ k))
        omega
    · rw [List.drop_eq_nil_of_le (by omega), getF] at h; cases h

theorem getL_put {l : List UInt8} {n k : Nat} (h : getL l = some (n, k)) : U64 n ∧ putL n = l.take k ∧ k ≤ l.length :=
  getF_put l 10 0 0 n k rfl (by simp) (putInv_zero l) (by simpa [getL] using h)

theorem getL_pos {l : List UInt8} {n k : Nat} (h : getL l = some (n, k)) : 1 ≤ k ∧ k ≤ l.length := by
  obtain ⟨_, h1, h2⟩ := getL_put h
  refine ⟨?_, h2⟩
  have := putL_pos n
  rw [h1, List.length_take] at this
  omega

theorem u64_small {acc n k : Nat} (h : U64 (acc + n * 128 ^ k)) (hk : 9 ≤ k) : n < 2 := by
  have h1 := h.out
  have h2 : 128 ^ 9 ≤ 128 ^ k := Nat.pow_le_pow_right (by omega) hk
  have p9 : (128 : Nat) ^ 9 = 9223372036854775808 := by simp
  rw [p9] at h2
  have h3 := Nat.mul_le_mul_left n h2
  omega

/-- What Put gives Get takes. -/
theorem getF_of_put (r : List UInt8) : ∀ f k acc n, f + k = 10 → (k = 0 ∨ 1 ≤ n) → U64 (acc + n * 128 ^ k) → 1 ≤ f → getF f k acc (putL n ++ r) = some (acc + n * 128 ^ k, k + (putL n).length) := by
  intro f
  induction f with
  | zero => intro k acc n _ _ _ h; omega
  | succ f ih =>
    intro k acc n hf hn hu _
    by_cases h128 : n < 128
    · have hb : (UInt8.ofNat n).toNat = n := u8_toNat (by omega)
      have hm : mayLast k (UInt8.ofNat n) = true := by
        by_cases h0 : k = 0
        · subst h0; exact mayLast_0 _
        · by_cases h9 : k = 9
          · have := u64_small hu (by omega)
            obtain rfl : n = 1 := by omega
            subst h9; rfl
          · rw [mayLast_m h0 h9, hb]
            have : n ≠ 0 := by omega
            simpa using this
      rw [putL_lt h128, List.singleton_append, getF, hb, if_pos h128, if_pos hm]; rfl
    · have hb : (UInt8.ofNat (n % 128 + 128)).toNat = n % 128 + 128 := u8_toNat (by omega)
      have hk : k < 9 := by
        rcases Nat.lt_or_ge k 9 with h | h
        · exact h
        · have := u64_small hu h; omega
      have e : acc + n % 128 * 128 ^ k + n / 128 * 128 ^ (k + 1) = acc + n * 128 ^ k := by
        rw [Nat.pow_succ, Nat.mul_comm (128 ^ k) 128, ← Nat.mul_assoc, Nat.add_assoc, ← Nat.add_mul]
        congr 2; omega
      have := ih (k + 1) (acc + n % 128 * 128 ^ k) (n / 128) (by omega) (.inr (by omega)) (by rw [e]; exact hu) (by omega)
      rw [putL_ge (by omega), List.cons_append, getF, hb, if_neg (by omega), show n % 128 + 128 - 128 = n % 128 by omega, this, e]
      simp only [List.length_cons]
      congr 2; omega

theorem getL_of_put {n : Nat} (h : U64 n) (r : List UInt8) : getL (putL n ++ r) = some (n, (putL n).length) := by
  have := getF_of_put r 10 0 0 n rfl (.inl rfl) (by simpa using h) (by omega)
  simpa [getL] using this

/-- k digits in base 256, the most significant first. -/
def dig : Nat → Nat → List UInt8
  | 0, _ => []
  | k + 1, n => UInt8.ofNat (n / 256 ^ k) :: dig k n

theorem dig_less : ∀ k n m, Op.bytesLess (dig k n) (dig k m) = decide (n % 256 ^ k < m % 256 ^ k) ∧ (dig k n = dig k m ↔ n % 256 ^ k = m % 256 ^ k) := by
  intro k
  induction k with
  | zero => intro n m; simp [dig, Op.bytesLess, Nat.mod_one]
  | succ k ih =>
    intro n m
    have hp : 0 < 256 ^ k := Nat.pow_pos (by omega)
    have key : ∀ x, x % 256 ^ (k + 1) = x % 256 ^ k + 256 ^ k * (x / 256 ^ k % 256) := fun x => by rw [Nat.pow_succ, Nat.mod_mul]
    have ln := Nat.mod_lt n hp
    have lm := Nat.mod_lt m hp
    obtain ⟨i1, i2⟩ := ih n m
    rw [key n, key m]
    generalize hX : n / 256 ^ k % 256 = X at *
    generalize hY : m / 256 ^ k % 256 = Y at *
    generalize n % 256 ^ k = a at *
    generalize m % 256 ^ k = b at *
    have eX : (UInt8.ofNat (n / 256 ^ k)).toNat = X := by simpa using hX
    have eY : (UInt8.ofNat (m / 256 ^ k)).toNat = Y := by simpa using hY
    have cmp : X < Y → a + 256 ^ k * X < b + 256 ^ k * Y := fun h => by
      have := Nat.mul_le_mul_left (256 ^ k) (show X + 1 ≤ Y from h)
      rw [Nat.mul_add] at this; omega
    have cmp' : Y < X → b + 256 ^ k * Y < a + 256 ^ k * X := fun h => by
      have := Nat.mul_le_mul_left (256 ^ k) (show Y + 1 ≤ X from h)
      rw [Nat.mul_add] at this; omega
    have hb : (UInt8.ofNat (n / 256 ^ k) = UInt8.ofNat (m / 256 ^ k)) ↔ X = Y := by rw [← UInt8.toNat_inj, eX, eY]
    have hl : (UInt8.ofNat (n / 256 ^ k) < UInt8.ofNat (m / 256 ^ k)) ↔ X < Y := by rw [UInt8.lt_iff_toNat_lt, eX, eY]
    constructor
    · rw [dig, dig, Op.bytesLess, i1, Bool.eq_iff_iff]
      simp only [Bool.or_eq_true, decide_eq_true_eq, Bool.and_eq_true, beq_iff_eq, hb, hl]
      constructor
      · rintro (h | ⟨rfl, h⟩)
        · exact cmp h
        · omega
      · intro h
        rcases Nat.lt_trichotomy X Y with h1 | rfl | h1
        · exact .inl h1
        · exact .inr ⟨rfl, by omega⟩
        · have := cmp' h1; omega
    · rw [dig, dig, List.cons.injEq, hb, i2]
      constructor
      · rintro ⟨rfl, rfl⟩; rfl
      · intro h
        rcases Nat.lt_trichotomy X Y with h1 | rfl | h1
        · have := cmp h1; omega
        · exact ⟨rfl, by omega⟩
        · have := cmp' h1; omega

theorem fixedL_dig (n : Nat) : fixedL n = dig 8 n := rfl

theorem p256 : (256 : Nat) ^ 8 = 18446744073709551616 := by simp

theorem fixed_less {a b : Nat} (ha : U64 a) (hb : U64 b) : Op.bytesLess (fixedL a) (fixedL b) = decide (a < b) := by
  rw [fixedL_dig, fixedL_dig, (dig_less 8 a b).1, p256, Nat.mod_eq_of_lt ha.out, Nat.mod_eq_of_lt hb.out]

theorem fixed_eq {a b : Nat} (ha : U64 a) (hb : U64 b) : fixedL a = fixedL b ↔ a = b := by
  rw [fixedL_dig, fixedL_dig, (dig_less 8 a b).2, p256, Nat.mod_eq_of_lt ha.out, Nat.mod_eq_of_lt hb.out]

theorem fixed_beq {a b : Nat} (ha : U64 a) (hb : U64 b) : (fixedL a == fixedL b) = ((a : Int) == (b : Int)) := by
  rw [Bool.eq_iff_iff, beq_iff_eq, fixed_eq ha hb, beq_iff_eq, Int.natCast_inj]

theorem below_next {B : Nat} {a b c : World} (h : Below B a b) (hB : B ≤ a.heap.size) (k : Below b.heap.size b c) : Below B a c := h.trans (k.mono (Nat.le_trans hB h.size))

end Go.Proofs.Ythliofijioghkaa

namespace Go.Proofs.Ythliofijioghkaa
open Go.RowKit
set_option linter.unusedVariables false

/-- A reader in memory: 'none': it is bad; 'some l': l is left. -/
structure RD (w : World) (b : Nat) (R : Option (List UInt8)) (s : ByteArray) : Prop where
  text : s.data.toList = R.getD []
  c0 : w.cell? ⟨b, 0, none⟩ = some (.string s)
  c1 : w.cell? ⟨b, 1, none⟩ = some (.bool R.isNone)
  f0 : w.frozen? ⟨b, 0, none⟩ = false
  f1 : w.frozen? ⟨b, 1, none⟩ = false
  size : s.size ≤ 140737488351232

/-- A reader in memory whose text is told by its state alone. -/
def RDE (w : World) (b : Nat) (R : Option (List UInt8)) : Prop := ∃ s, RD w b R s

theorem RDE.lt {w : World} {b : Nat} {R : Option (List UInt8)} (h : RDE w b R) : b < w.heap.size := by
  obtain ⟨s, h⟩ := h
  exact World.block_lt_of_cell? w ⟨b, 0, none⟩ h.c0

theorem RDE.block {w w' : World} {b : Nat} {R : Option (List UInt8)} (h : RDE w b R) (hb : w'.heap[b]? = w.heap[b]?) : RDE w' b R := by
  obtain ⟨s, h⟩ := h
  exact ⟨s, h.text, (World.cell?_of_block (w := w) (a := ⟨b, 0, none⟩) hb).trans h.c0, (World.cell?_of_block (w := w) (a := ⟨b, 1, none⟩) hb).trans h.c1,
    (World.frozen?_of_block (w := w) (a := ⟨b, 0, none⟩) hb).trans h.f0, (World.frozen?_of_block (w := w) (a := ⟨b, 1, none⟩) hb).trans h.f1, h.size⟩

theorem RDE.kept {w w' : World} {b : Nat} {R : Option (List UInt8)} {row : Option Nat} (h : RDE w b R) (hg : w.grownBy w' row) (hr : some b ≠ row) : RDE w' b R :=
  h.block (hg.block b h.lt hr)

theorem RDE.below {w w' : World} {b : Nat} {R : Option (List UInt8)} (h : RDE w b R) (hg : Below w.heap.size w w') : RDE w' b R := h.block (hg.block b h.lt)

theorem grownBy_set (w : World) (a : Addr) (v : Value) : w.grownBy (w.setCell a v) (some a.block) :=
  ⟨rfl, rfl, rfl, by simp [World.setCell], fun k _ hk => Below.heap_setCell _ _ _ _ (by intro e; exact hk (by rw [e]))⟩

theorem grownBy_trans {a b c : World} {row : Option Nat} (h : a.grownBy b row) (k : b.grownBy c row) : a.grownBy c row :=
  ⟨k.os.trans h.os, k.tape.trans h.tape, k.output.trans h.output, Nat.le_trans h.size k.size, fun i hi hr => (k.block i (Nat.lt_of_lt_of_le hi h.size) hr).trans (h.block i hi hr)⟩

theorem grownBy_refl (a : World) (row : Option Nat) : a.grownBy a row := ⟨rfl, rfl, rfl, Nat.le_refl _, fun _ _ _ => rfl⟩

theorem grownBy_drewN {a b : World} {row : Option Nat} (h : a.grownBy b row) (n : Nat) : a.grownBy (b.drewN n) row :=
  grownBy_trans h ⟨rfl, rfl, rfl, Nat.le_refl _, fun _ _ _ => rfl⟩

theorem grownBy_below {a b : World} (row : Option Nat) (h : Below a.heap.size a b) : a.grownBy b row := ⟨h.os, h.tape, h.output, h.size, fun k hk _ => h.block k hk⟩

theorem below_grownBy {a b : World} {B r : Nat} (h : a.grownBy b (some r)) (hB : B ≤ a.heap.size) (hr : B ≤ r) : Below B a b :=
  (Below.refl B a).grown h hB (fun k hk => by injection hk with hk; omega)

theorem rd_fail {w : World} {b : Nat} {R : Option (List UInt8)} {s : ByteArray} (h : RD w b R s) : RDE ((w.setCell ⟨b, 0, none⟩ (.string ⟨#[]⟩)).setCell ⟨b, 1, none⟩ (.bool true)) b none :=
  ⟨⟨#[]⟩, rfl, by rw [World.cell?_setCell_other _ _ _ _ (by intro e; injection e with _ e; cases e), World.cell?_setCell_same _ _ _ h.c0],
    by rw [World.cell?_setCell_same _ _ _ (by rw [World.cell?_setCell_other _ _ _ _ (by intro e; injection e with _ e; cases e)]; exact h.c1)]; rfl,
    by rw [World.frozen?_setCell, World.frozen?_setCell]; exact h.f0, by rw [World.frozen?_setCell, World.frozen?_setCell]; exact h.f1, by decide⟩

theorem rd_set {w : World} {b : Nat} {l l' : List UInt8} {s s' : ByteArray} (h : RD w b (some l) s) (hl : s'.data.toList = l') (hs : s'.size ≤ s.size) : RDE (w.setCell ⟨b, 0, none⟩ (.string s')) b (some l') :=
  ⟨s', by rw [hl]; rfl, by rw [World.cell?_setCell_same _ _ _ h.c0],
    by rw [World.cell?_setCell_other _ _ _ _ (by intro e; injection e with _ e; cases e)]; exact h.c1,
    by rw [World.frozen?_setCell]; exact h.f0, by rw [World.frozen?_setCell]; exact h.f1, Nat.le_trans hs h.size⟩

theorem RD.drewN {w : World} {b : Nat} {R : Option (List UInt8)} {s : ByteArray} (h : RD w b R s) (n : Nat) : RD (w.drewN n) b R s :=
  ⟨h.text, h.c0, h.c1, h.f0, h.f1, h.size⟩

theorem fail_grown (w : World) (b : Nat) : w.grownBy ((w.setCell ⟨b, 0, none⟩ (.string ⟨#[]⟩)).setCell ⟨b, 1, none⟩ (.bool true)) (some b) :=
  grownBy_trans (grownBy_set w ⟨b, 0, none⟩ _) (grownBy_set _ ⟨b, 1, none⟩ _)

/-- The next number, at most 'most'; what is left. -/
def numS (most : Nat) : Option (List UInt8) → Nat × Option (List UInt8)
  | none => (0, none)
  | some l => match getL l with
    | some (n, k) => if n ≤ most then (n, some (l.drop k)) else (0, none)
    | none => (0, none)

def intS (most : Int) (R : Option (List UInt8)) : Nat × Option (List UInt8) := if most < 0 then (0, none) else numS most.toNat R

def takeS (n : Int) : Option (List UInt8) → List UInt8 × Option (List UInt8)
  | none => ([], none)
  | some l => if n < 0 ∨ (l.length : Int) < n then ([], none) else (l.take n.toNat, some (l.drop n.toNat))

def textS : Option (List UInt8) → List UInt8 × Option (List UInt8)
  | none => ([], none)
  | some l => match getL l with
    | some (n, k) => if n ≤ (l.drop k).length then ((l.drop k).take n, some ((l.drop k).drop n)) else ([], none)
    | none => ([], none)

/-- Is all read? -/
def endS (R : Option (List UInt8)) : Bool := R == some []

theorem endS_none : endS none = false := rfl
theorem endS_some (s : ByteArray) (l : List UInt8) (h : s.data.toList = l) : endS (some l) = s.toList.isEmpty := by
  rw [Lib.toList_data, h]
  cases l <;> rfl

theorem numS_hit {most n k : Nat} {l : List UInt8} (h : getL l = some (n, k)) (hn : n ≤ most) : numS most (some l) = (n, some (l.drop k)) := by simp [numS, h, hn]
theorem numS_great {most n k : Nat} {l : List UInt8} (h : getL l = some (n, k)) (hn : ¬ n ≤ most) : numS most (some l) = (0, none) := by simp [numS, h, hn]
theorem numS_not {most : Nat} {l : List UInt8} (h : getL l = none) : numS most (some l) = (0, none) := by simp [numS, h]

theorem size_drop {s t : ByteArray} {l : List UInt8} {k : Nat} (hs : s.data.toList = l) (ht : t.data.toList = l.drop k) : t.size ≤ s.size := by
  have h1 := congrArg List.length hs
  have h2 := congrArg List.length ht
  simp only [Array.length_toList, List.length_drop] at h1 h2
  show t.data.size ≤ s.data.size
  omega

theorem RDE.drewN {w : World} {b : Nat} {R : Option (List UInt8)} (h : RDE w b R) (n : Nat) : RDE (w.drewN n) b R := by
  obtain ⟨s, h⟩ := h
  exact ⟨s, h.drewN n⟩

theorem intS_neg (R : Option (List UInt8)) {most : Int} (h : most < 0) : intS most R = (0, none) := by simp [intS, h]
theorem intS_pos (R : Option (List UInt8)) (m : Nat) : intS (m : Int) R = numS m R := by
  unfold intS; rw [if_neg (by omega)]; simp
theorem numS_le (m : Nat) (R : Option (List UInt8)) : (numS m R).1 ≤ m := by
  unfold numS
  split
  · simp
  · split
    · split <;> simp_all
    · simp

theorem takeS_neg {n : Int} {l : List UInt8} (h : n < 0) : takeS n (some l) = ([], none) := by simp [takeS, h]
theorem takeS_more {n : Int} {l : List UInt8} (h : (l.length : Int) < n) : takeS n (some l) = ([], none) := by simp [takeS, h]
theorem takeS_ok {n : Nat} {l : List UInt8} (h : n ≤ l.length) : takeS (n : Int) (some l) = (l.take n, some (l.drop n)) := by
  simp only [takeS]
  rw [if_neg (by omega)]; simp

theorem size_of {s : ByteArray} {l : List UInt8} (hs : s.data.toList = l) : l.length = s.size := by rw [← hs]; simp

theorem extract_form {s : ByteArray} {l : List UInt8} (hs : s.data.toList = l) (k : Nat) : s.extract 0 k = ⟨(l.take k).toArray⟩ := by
  apply ByteArray.ext
  apply Array.toList_inj.1
  rw [extract_take, hs]

theorem textS_int (l : List UInt8) : textS (some l) = takeS ((intS (l.length : Int) (some l)).1 : Int) (intS (l.length : Int) (some l)).2 := by
  rw [intS_pos]
  simp only [textS, numS]
  cases hg : getL l with
  | none => rfl
  | some p =>
    obtain ⟨n, k⟩ := p
    have hp := getL_pos hg
    simp only
    by_cases h : n ≤ (l.drop k).length
    · have h2 : n ≤ l.length := by rw [List.length_drop] at h; omega
      rw [if_pos h, if_pos h2, takeS_ok h]
    · rw [if_neg h]
      by_cases h2 : n ≤ l.length
      · rw [if_pos h2, takeS_more (by omega)]
      · rw [if_neg h2]; rfl

theorem numS_top {n k : Nat} {l : List UInt8} (h : getL l = some (n, k)) : numS 18446744073709551615 (some l) = (n, some (l.drop k)) := by
  have := (getL_put h).1.out
  exact numS_hit h (by omega)

/-- The reference's Int out of its Num. -/
theorem intS_top (most : Nat) (R : Option (List UInt8)) : intS (most : Int) R = if (numS 18446744073709551615 R).2 = none ∨ most < (numS 18446744073709551615 R).1 then (0, none) else numS 18446744073709551615 R := by
  rw [intS_pos]
  cases R with
  | none => rfl
  | some l =>
    cases hg : getL l with
    | none => rw [numS_not hg, numS_not hg]; rfl
    | some p =>
      obtain ⟨n, k⟩ := p
      rw [numS_top hg]
      by_cases h : n ≤ most
      · rw [numS_hit hg h, if_neg (by simp; omega)]
      · rw [numS_great hg h, if_pos (by right; simp only; omega)]

theorem textS_top (R : Option (List UInt8)) : textS R = match numS 18446744073709551615 R with
    | (n, some r) => if r.length < n then ([], none) else takeS (n : Int) (some r)
    | (_, none) => ([], none) := by
  cases R with
  | none => rfl
  | some l =>
    cases hg : getL l with
    | none => rw [numS_not hg]; simp [textS, hg]
    | some p =>
      obtain ⟨n, k⟩ := p
      rw [numS_top hg]
      simp only [textS, hg]
      by_cases h : n ≤ (l.drop k).length
      · rw [if_pos h, if_neg (by omega), takeS_ok h]
      · rw [if_neg h, if_pos (by omega)]

theorem numS_lt (R : Option (List UInt8)) : (numS 18446744073709551615 R).1 < 18446744073709551616 := by
  have := numS_le 18446744073709551615 R
  omega

/-- What a call leaves: the reader at b, nothing else turned. -/
def Left (w w' : World) (b : Nat) (R : Option (List UInt8)) : Prop := RDE w' b R ∧ w.grownBy w' (some b)

theorem Left.trans {a b c : World} {x : Nat} {R S : Option (List UInt8)} (h : Left a b x R) (k : Left b c x S) : Left a c x S := ⟨k.1, grownBy_trans h.2 k.2⟩

theorem RDE.drew {w : World} {b : Nat} {R : Option (List UInt8)} (h : RDE w b R) : RDE w.drew b R := h.block rfl

theorem Left.other {w w' : World} {b c : Nat} {R S : Option (List UInt8)} (h : Left w w' b R) (k : RDE w c S) (hne : c ≠ b) : RDE w' c S := k.kept h.2 (by simpa using hne)

theorem Left.cell {w w' : World} {b c j : Nat} {R : Option (List UInt8)} {v : Value} (h : Left w w' b R) (k : w.cell? ⟨c, j, none⟩ = some v) (hne : c ≠ b) : w'.cell? ⟨c, j, none⟩ = some v :=
  (World.cell?_of_block (w := w) (a := ⟨c, j, none⟩) (h.2.block c (World.block_lt_of_cell? w ⟨c, j, none⟩ k) (by simpa using hne))).trans k

theorem Left.below {w w' : World} {b B : Nat} {R : Option (List UInt8)} (h : Left w w' b R) (hB : B ≤ w.heap.size) (hb : B ≤ b) : Below B w w' := below_grownBy h.2 hB hb

end Go.Proofs.Ythliofijioghkaa

namespace Go.Proofs.Ythliofijioghkaa
open Go.RowKit
set_option linter.unusedVariables false

/-- A slice of elements of one cell each that came in: it is empty, or its elements lie in a row. -/
structure Row1 (W : World) (a : Option Addr) (len : Nat) (V : Nat → Value) : Prop where
  max : len ≤ 9223372036854775807
  row : len = 0 ∨ ∃ b off, a = some ⟨b, off, none⟩ ∧ b < W.heap.size ∧ ∀ i, i < len → W.cell? ⟨b, off + i, none⟩ = some (V i)

theorem Row1.at {W : World} {a : Option Addr} {len : Nat} {V : Nat → Value} (h : Row1 W a len V) {k : Nat} (hk : k < len) :
    ∃ b off, a = some ⟨b, off, none⟩ ∧ b < W.heap.size ∧ W.cell? ⟨b, off + k, none⟩ = some (V k) := by
  rcases h.row with h0 | ⟨b, off, ha, hb, hc⟩
  · omega
  · exact ⟨b, off, ha, hb, hc k hk⟩

/-- In a world that is as it was below. -/
theorem Row1.in {W w : World} {a : Option Addr} {len : Nat} {V : Nat → Value} (h : Row1 W a len V) (hw : Below W.heap.size W w) {k : Nat} (hk : k < len) :
    ∃ b off, a = some ⟨b, off, none⟩ ∧ w.cell? ⟨b, off + k, none⟩ = some (V k) := by
  obtain ⟨b, off, ha, hb, hc⟩ := h.at hk
  exact ⟨b, off, ha, (hw.cell (p := ⟨b, off + k, none⟩) hb).trans hc⟩

def encs (zs : List Nat) : List UInt8 := zs.flatMap putL
def enct (ss : List ByteArray) : List UInt8 := ss.flatMap fun s => putL s.size ++ s.data.toList

theorem encs_cons (n : Nat) (zs : List Nat) : encs (n :: zs) = putL n ++ encs zs := rfl
theorem enct_cons (s : ByteArray) (ss : List ByteArray) : enct (s :: ss) = putL s.size ++ (s.data.toList ++ enct ss) := by simp [enct]

theorem encs_take {zs : List Nat} {k : Nat} (h : k < zs.length) : encs (zs.take (k + 1)) = encs (zs.take k) ++ putL zs[k] := by
  rw [List.take_succ_eq_append_getElem h, encs, encs, List.flatMap_append]; simp only [List.flatMap_cons, List.flatMap_nil, List.append_nil]
theorem enct_take {ss : List ByteArray} {k : Nat} (h : k < ss.length) : enct (ss.take (k + 1)) = enct (ss.take k) ++ (putL ss[k].size ++ ss[k].data.toList) := by
  rw [List.take_succ_eq_append_getElem h, enct, enct, List.flatMap_append]; simp only [List.flatMap_cons, List.flatMap_nil, List.append_nil]
theorem encs_drop {zs : List Nat} {k : Nat} (h : k < zs.length) : encs (zs.drop k) = putL zs[k] ++ encs (zs.drop (k + 1)) := by
  rw [List.drop_eq_getElem_cons h, encs_cons]
theorem enct_drop {ss : List ByteArray} {k : Nat} (h : k < ss.length) : enct (ss.drop k) = putL ss[k].size ++ (ss[k].data.toList ++ enct (ss.drop (k + 1))) := by
  rw [List.drop_eq_getElem_cons h, enct_cons]

theorem encs_len (zs : List Nat) (h : ∀ n ∈ zs, U64 n) : (encs zs).length ≤ 10 * zs.length := by
  induction zs with
  | nil => simp [encs]
  | cons n zs ih =>
    have h1 := putL_len10 (h n (by simp))
    have h2 := ih (fun m hm => h m (by simp [hm]))
    rw [encs_cons, List.length_append, List.length_cons]; omega

/-- How many bytes texts have together. -/
def sizes (ss : List ByteArray) : Nat := (ss.map ByteArray.size).sum
theorem sizes_cons (s : ByteArray) (ss : List ByteArray) : sizes (s :: ss) = s.size + sizes ss := by simp [sizes]
theorem size_le_sizes {s : ByteArray} {ss : List ByteArray} (h : s ∈ ss) : s.size ≤ sizes ss := by
  induction ss with
  | nil => cases h
  | cons x r ih =>
    rw [sizes_cons]
    rcases List.mem_cons.1 h with rfl | h
    · omega
    · have := ih h; omega

theorem enct_len (ss : List ByteArray) (h : sizes ss ≤ 1048576) : (enct ss).length ≤ 10 * ss.length + sizes ss := by
  induction ss with
  | nil => simp [enct, sizes]
  | cons s ss ih =>
    rw [sizes_cons] at h
    have h1 := putL_len10 (n := s.size) (by unfold U64; omega)
    have h2 := ih (by omega)
    rw [enct_cons, sizes_cons]
    simp only [List.length_append, List.length_cons, Array.length_toList]
    have : s.data.size = s.size := rfl
    omega

theorem enct_mono {ss : List ByteArray} {k : Nat} (h : k ≤ ss.length) : (enct (ss.take k)).length ≤ (enct ss).length := by
  have e : enct ss = enct (ss.take k) ++ enct (ss.drop k) := by rw [enct, enct, enct, ← List.flatMap_append, List.take_append_drop]
  rw [e, List.length_append]; omega
theorem encs_mono {zs : List Nat} {k : Nat} (h : k ≤ zs.length) : (encs (zs.take k)).length ≤ (encs zs).length := by
  have e : encs zs = encs (zs.take k) ++ encs (zs.drop k) := by rw [encs, encs, encs, ← List.flatMap_append, List.take_append_drop]
  rw [e, List.length_append]; omega

theorem numS_put {n : Nat} (h : U64 n) (r : List UInt8) : numS 18446744073709551615 (some (putL n ++ r)) = (n, some r) := by
  rw [numS_top (getL_of_put h r)]
  simp

theorem textS_put {s : ByteArray} (h : U64 s.size) (r : List UInt8) : textS (some (putL s.size ++ (s.data.toList ++ r))) = (s.data.toList, some r) := by
  rw [textS_top, numS_put h]
  have hl : s.data.toList.length = s.size := by simp
  simp only
  rw [if_neg (by rw [List.length_append]; omega), takeS_ok (by rw [List.length_append]; omega), ← hl]
  simp

theorem concat_form {s t : ByteArray} {l r : List UInt8} (hs : s.data.toList = l) (ht : t.data.toList = r) : (s ++ t).data.toList = l ++ r := by
  simp [hs, ht]

theorem concat_size (s t : ByteArray) : (s ++ t).size = s.size + t.size := by simp

end Go.Proofs.Ythliofijioghkaa

namespace Go.Proofs.Ythliofijioghkaa
set_option linter.unusedVariables false

/-! Reading, backwards. -/
theorem num_read {m n : Nat} (h : n ≤ m) (h2 : U64 n) (r : List UInt8) : numS m (some (putL n ++ r)) = (n, some r) := by
  rw [numS_hit (getL_of_put h2 r) h]; simp
theorem int_read {m n : Nat} (h : n ≤ m) (h2 : U64 n) (r : List UInt8) : intS (m : Int) (some (putL n ++ r)) = (n, some r) := by
  rw [intS_pos, num_read h h2]
theorem num_inv {m n : Nat} {l r : List UInt8} (h : numS m (some l) = (n, some r)) : n ≤ m ∧ U64 n ∧ l = putL n ++ r := by
  unfold numS at h
  simp only at h
  cases hg : getL l with
  | none => rw [hg] at h; simp at h
  | some p =>
    obtain ⟨a, k⟩ := p
    rw [hg] at h
    simp only at h
    have hp := getL_put hg
    split at h
    · rename_i ha
      injection h with h1 h2
      injection h2 with h2
      subst h1
      refine ⟨ha, hp.1, ?_⟩
      rw [hp.2.1, ← h2, List.take_append_drop]
    · injection h with h1 h2; cases h2
theorem int_inv {m : Int} {n : Nat} {l r : List UInt8} (h : intS m (some l) = (n, some r)) : (n : Int) ≤ m ∧ U64 n ∧ l = putL n ++ r := by
  unfold intS at h
  split at h
  · injection h with h1 h2; cases h2
  · have := num_inv h
    exact ⟨by omega, this.2⟩
theorem int_none (m : Int) : intS m none = (0, none) := by unfold intS; split <;> rfl
theorem take_read {n : Nat} (t r : List UInt8) (h : t.length = n) : takeS (n : Int) (some (t ++ r)) = (t, some r) := by
  rw [takeS_ok (by rw [List.length_append]; omega), ← h]; simp
theorem take_inv {n : Nat} {l t r : List UInt8} (h : takeS (n : Int) (some l) = (t, some r)) : l = t ++ r ∧ t.length = n := by
  simp only [takeS] at h
  split at h
  · injection h with h1 h2; cases h2
  · injection h with h1 h2
    injection h2 with h2
    subst h1
    subst h2
    simp
    omega
theorem take_none (n : Int) : takeS n none = ([], none) := rfl
theorem text_read {t : List UInt8} (h : U64 t.length) (r : List UInt8) : textS (some (putL t.length ++ (t ++ r))) = (t, some r) := by
  rw [textS_top, numS_put h]
  simp only
  rw [if_neg (by rw [List.length_append]; omega), take_read t r rfl]
theorem text_inv {l t r : List UInt8} (h : textS (some l) = (t, some r)) : U64 t.length ∧ l = putL t.length ++ (t ++ r) := by
  rw [textS_top] at h
  cases hn : numS 18446744073709551615 (some l) with
  | mk n o =>
    rw [hn] at h
    cases o with
    | none => injection h with h1 h2; cases h2
    | some q =>
      simp only at h
      obtain ⟨_, h2, rfl⟩ := num_inv hn
      split at h
      · injection h with h1 h2; cases h2
      · obtain ⟨h3, h4⟩ := take_inv h
        subst h4
        exact ⟨h2, by rw [h3]⟩
theorem text_none : textS none = ([], none) := rfl
end Go.Proofs.Ythliofijioghkaa

namespace Go.Proofs.Ythliofijioghkaa
open Go.RowKit
set_option linter.unusedVariables false

theorem infoU8 : (Try.prog.info? 5).map (fun i => (i.zero, i.size, i.bytes)) = some (some (.int .u8 0), 1, 1) := by kernel_rfl

/-- What is owned as bytes is turned into the text of these bytes. -/
theorem conv_own {w : World} {base : Nat} {v : Value} {l : List UInt8} (h : w.ownsRow base 5 1 v l.length (l.map bv)) :
    (convert 67 9 v).run Try.prog w = .ok (.string ⟨l.toArray⟩) w := by
  rcases h.2 with ⟨rfl, h0⟩ | ⟨g, cap, cur, rfl, _, hg, hle, _, hcs, htake⟩
  · obtain rfl : l = [] := List.length_eq_zero_iff.1 h0
    exact run_convert_bytes_nil w 67 5 Try.underlying67 Try.underlying5 0 0 _ Try.underlying9
  · have := run_convert_bytes_back (P := Try.prog) w 67 9 5 ⟨g, 0, none⟩ cap l Try.underlying67 Try.underlying5 Try.underlying9 (fun j hj => by
      rw [Addr.add_lit, cell_of_row w g _ cur _ _ hg]
      have : (cur.toList.take (l.length * 1))[j]? = (l.map bv)[j]? := by rw [htake]
      rw [List.getElem?_take, if_pos (by omega)] at this
      simp [List.getElem?_eq_getElem hj] at this
      simpa [bv] using this)
    exact this

theorem new_one (w : World) (x : Value) (t : TypeId) : ∀ j u, [x][j]? = some u → (w.alloc (.cells #[x] t)).cell? ((⟨w.heap.size, 0, none⟩ : Addr).add j) = some u := by
  intro j u h
  match j, h with
  | 0, h => simp at h; subst h; simp [Addr.add]

theorem one_new {k : IntKind} {x : Int} : ∀ u ∈ [Value.int k x], u.oneCell' = true := by intro u hu; simp at hu; subst hu; rfl

end Go.Proofs.Ythliofijioghkaa

namespace Go.Proofs.Ythliofijioghkaa
open Go.RowKit
set_option linter.unusedVariables false

set_option maxHeartbeats 400000 in
set_option maxRecDepth 100000 in
theorem put_any (a : Nat) (h1 : U64 a) (w : World) :
    Calls Try.prog 41 #[.int .u64 (a : Int)] w fun e w' => e = .returned (.string ⟨(putL a).toArray⟩) ∧ Below w.heap.size w w' := by
  obtain ⟨i0, hi, hz0, hz1, hz2⟩ := info_parts infoU8
  go_enter Try.func41, Try.ntmps41
  go_wp2
  go_loopw [0, 3] (fun n v wr => ∃ (m : Nat) (l : List UInt8), U64 m ∧ n = .int .u64 m ∧ wr.ownsRow w.heap.size 5 1 v l.length (l.map bv) ∧ Hid (l ++ putL m = putL a) ∧ Below w.heap.size w wr)
    (fun n _ _ => (intOf n).toNat)
  case atStart => exact ⟨a, [], h1, rfl, World.ownsRow_nil _ _ _ _, rfl, Below.refl _ _⟩
  case round =>
    obtain ⟨m, l, hm, rfl, hown, hl, hb⟩ := hrel
    have hlen : l.length ≤ 9 := by
      have h2 := putL_len10 h1
      have h3 := congrArg List.length hl.out
      have h4 := putL_pos m
      rw [List.length_append] at h3
      omega
    have hsz := hb.size
    by_cases h128 : m < 128
    · go_wp2_with (first
        | (at_builtin; refine wpList_append_own _ rfl (.tmp 14) (.tmp 17) 67 rfl w.heap.size 5 i0 (.int .u8 0) 1 1 Try.underlying67 hi hz0 hz1 hz2 rfl (by decide) _ _ _ rfl (hown.alloc _) ⟨wr.heap.size, 0, none⟩ 1 1 [.int .u8 m] rfl rfl ?c1 ?c2 ?c3 ?c4 ?c5 ?_))
      case c1 => exact new_one _ _ _
      case c2 => exact one_new
      case c3 => unfold maxLen; omega
      case c4 => omega
      case c5 => simp; omega
      intro v' w1 hown' hgrow _
      have hown2 : w1.ownsRow w.heap.size 5 1 v' (l ++ putL m).length ((l ++ putL m).map bv) := by
        rw [putL_lt h128]
        simpa [bv, Nat.mod_eq_of_lt (show m < 256 by omega)] using hown'
      rw [hl.out] at hown2
      have hcv := conv_own hown2
      have hb1 := (hb.alloc hsz _).grown hgrow (by simp; omega) (fun k hk => (hown.lt k hk).1)
      clear hown hown' hown2 hgrow hb hi
      go_wp2
      go_ret
      exact ⟨rfl, hb1⟩
    · go_wp2_with (first
        | (at_builtin; refine wpList_append_own _ rfl (.tmp 6) (.tmp 10) 67 rfl w.heap.size 5 i0 (.int .u8 0) 1 1 Try.underlying67 hi hz0 hz1 hz2 rfl (by decide) _ _ _ rfl (hown.alloc _) ⟨wr.heap.size, 0, none⟩ 1 1 [.int .u8 (bits BinOp.or IntKind.u8 (↑m % 256) 128)] rfl rfl ?d1 ?d2 ?d3 ?d4 ?d5 ?_))
      case d1 => exact new_one _ _ _
      case d2 => exact one_new
      case d3 => unfold maxLen; omega
      case d4 => omega
      case d5 => simp; omega
      intro v' w1 hown' hgrow _
      have hown2 : w1.ownsRow w.heap.size 5 1 v' (l ++ [UInt8.ofNat (m % 128 + 128)]).length ((l ++ [UInt8.ofNat (m % 128 + 128)]).map bv) := by
        rw [u8_or128'] at hown'
        simpa [bv] using hown'
      have hl2 : Hid ((l ++ [UInt8.ofNat (m % 128 + 128)]) ++ putL (m / 128) = putL a) := by
        have := hl.out
        rw [putL_ge (by omega)] at this
        show _ = _
        rw [← this]; simp
      have hb1 := (hb.alloc hsz _).grown hgrow (by simp; omega) (fun k hk => (hown.lt k hk).1)
      clear hown hown' hgrow hb hi hl
      go_wp2
      go_roundw
      case rel => exact ⟨m / 128, _, hm.le (by omega), by simp, hown2, hl2, hb1⟩
      case measure => simp [intOf]; omega
end Go.Proofs.Ythliofijioghkaa

namespace Go.Proofs.Ythliofijioghkaa
open Go.RowKit
set_option linter.unusedVariables false

end Go.Proofs.Ythliofijioghkaa

namespace Go.Proofs.Ythliofijioghkaa
open Go.RowKit
set_option linter.unusedVariables false

set_option maxHeartbeats 400000 in
set_option maxRecDepth 100000 in
theorem last_any (i : Nat) (c : UInt8) (w : World) :
    Calls Try.prog 66 #[.int .i64 (i : Int), .int .u8 (c.toNat : Int)] w fun e w' => e = .returned (.bool (mayLast i c)) ∧ w = w' := by
  by_cases h9 : i = 9
  · subst h9
    go_enter Try.func66, Try.ntmps66
    go_wp2
    go_ret
    exact ⟨by rw [mayLast_9]; rfl, rfl⟩
  · have h9' : ((i : Int) == 9) = false := by simp; omega
    by_cases h0 : i = 0
    · subst h0
      go_enter Try.func66, Try.ntmps66
      go_wp2
      go_ret
      exact ⟨by simp [mayLast], rfl⟩
    · have h0' : ((i : Int) == 0) = false := by simp; omega
      go_enter Try.func66, Try.ntmps66
      go_wp2
      go_ret
      exact ⟨by rw [mayLast_m h0 h9]; rfl, rfl⟩

set_option maxHeartbeats 400000 in
set_option maxRecDepth 100000 in
theorem get_any (s : ByteArray) (hs : s.size ≤ maxLen) (w : World) :
    Calls Try.prog 60 #[.string s] w fun e w' => GetEnd s e ∧ ∃ n, w' = w.drewN n := by
  unfold maxLen at hs
  go_enter Try.func60, Try.ntmps60
  go_wp2
  go_loop [5, 6] (fun n i => ∃ (k : Nat) (A : Int), k ≤ 10 ∧ k ≤ s.size ∧ i = .int .i64 (k : Int) ∧ n = .int .u64 A ∧ GetRel s k A) (fun _ i => 10 - (intOf i).toNat)
  case atStart => exact ⟨0, 0, by omega, by omega, rfl, rfl, getRel_zero s⟩
  case round =>
    obtain ⟨k, A, hk, hks, rfl, rfl, hr⟩ := hrel
    by_cases hlt : k < s.size
    · by_cases h10 : k < 10
      · obtain ⟨acc, rfl, hacc⟩ := hr.yes h10
        by_cases h128 : s[k].toNat < 128
        · by_cases hm : mayLast k s[k] = true
          · have hor := get_or (mayLast_small hm h10) hacc.1
            have hg := get_hit hlt h10 h128 hm hacc.2
            have HO := Lib.hid hor
            have HG := Lib.hid hg
            clear hor hg hacc hr
            go_wp2_with (go_at_call 66; refine (last_any _ _ _).mono ?_; rintro e w' ⟨rfl, rfl⟩)
            go_quiet (fail)
            go_wp2
            go_ret3
            exact ⟨.inl ⟨_, _, _, HG.out, extract_drop _ _, by rw [HO.out]; rfl⟩, _, rfl⟩
          · have hm' : mayLast k s[k] = false := by simpa using hm
            have hg := get_not hlt h10 h128 hm' hacc.2
            have HG := Lib.hid hg
            clear hm hg hacc hr
            go_wp2_with (go_at_call 66; refine (last_any _ _ _).mono ?_; rintro e w' ⟨rfl, rfl⟩)
            go_ret3
            exact ⟨.inr ⟨HG.out, rfl⟩, 0, rfl⟩
        · have hn := get_next hlt h10 h128 hacc.1 hacc.2
          clear hacc hr
          go_wp2
          go_round
          case rel => exact ⟨k + 1, _, by omega, by omega, by go_num, rfl, hn⟩
          case measure => simp [intOf]; omega
      · have HG := Lib.hid (hr.no h10)
        clear hr
        go_wp2
        go_ret3
        exact ⟨.inr ⟨HG.out, rfl⟩, 0, rfl⟩
    · by_cases h10 : k < 10
      · obtain ⟨acc, rfl, hacc⟩ := hr.yes h10
        have HG := Lib.hid (get_end hlt h10 hacc.2)
        clear hr hacc
        go_wp2
        go_ret3
        exact ⟨.inr ⟨HG.out, rfl⟩, 0, rfl⟩
      · have HG := Lib.hid (hr.no h10)
        clear hr
        go_wp2
        go_ret3
        exact ⟨.inr ⟨HG.out, rfl⟩, 0, rfl⟩
end Go.Proofs.Ythliofijioghkaa

namespace Go.Proofs.Ythliofijioghkaa
open Go.RowKit
set_option linter.unusedVariables false

set_option maxHeartbeats 400000 in
set_option maxRecDepth 100000 in
theorem rput_any (a : Nat) (h1 : U64 a) (w : World) :
    Calls Try.prog 45 #[.int .u64 (a : Int)] w fun e w' => e = .returned (.string ⟨(putL a).toArray⟩) ∧ Below w.heap.size w w' := by
  obtain ⟨i0, hi, hz0, hz1, hz2⟩ := info_parts infoU8
  go_enter Try.func45, Try.ntmps45
  go_wp2
  go_loopw [0, 3] (fun n v wr => ∃ (m : Nat) (l : List UInt8), U64 m ∧ n = .int .u64 m ∧ wr.ownsRow w.heap.size 5 1 v l.length (l.map bv) ∧ Hid (l ++ putL m = putL a) ∧ Below w.heap.size w wr)
    (fun n _ _ => (intOf n).toNat)
  case atStart => exact ⟨a, [], h1, rfl, World.ownsRow_nil _ _ _ _, rfl, Below.refl _ _⟩
  case round =>
    obtain ⟨m, l, hm, rfl, hown, hl, hb⟩ := hrel
    have hlen : l.length ≤ 9 := by
      have h2 := putL_len10 h1
      have h3 := congrArg List.length hl.out
      have h4 := putL_pos m
      rw [List.length_append] at h3
      omega
    have hsz := hb.size
    by_cases h128 : m < 128
    · go_wp2_with (first
        | (at_builtin; refine wpList_append_own _ rfl (.tmp 6) (.tmp 9) 67 rfl w.heap.size 5 i0 (.int .u8 0) 1 1 Try.underlying67 hi hz0 hz1 hz2 rfl (by decide) _ _ _ rfl (hown.alloc _) ⟨wr.heap.size, 0, none⟩ 1 1 [.int .u8 m] rfl rfl ?c1 ?c2 ?c3 ?c4 ?c5 ?_))
      case c1 => exact new_one _ _ _
      case c2 => exact one_new
      case c3 => unfold maxLen; omega
      case c4 => omega
      case c5 => simp; omega
      intro v' w1 hown' hgrow _
      have hown2 : w1.ownsRow w.heap.size 5 1 v' (l ++ putL m).length ((l ++ putL m).map bv) := by
        rw [putL_lt h128]
        simpa [bv, Nat.mod_eq_of_lt (show m < 256 by omega)] using hown'
      rw [hl.out] at hown2
      have hcv := conv_own hown2
      have hb1 := (hb.alloc hsz _).grown hgrow (by simp; omega) (fun k hk => (hown.lt k hk).1)
      clear hown hown' hown2 hgrow hb hi
      go_wp2
      go_ret
      exact ⟨rfl, hb1⟩
    · have hw := div_wrap hm
      go_wp2_with (first
        | (at_builtin; refine wpList_append_own _ rfl (.tmp 12) (.tmp 17) 67 rfl w.heap.size 5 i0 (.int .u8 0) 1 1 Try.underlying67 hi hz0 hz1 hz2 rfl (by decide) _ _ _ rfl (hown.alloc _) ⟨wr.heap.size, 0, none⟩ 1 1 [.int .u8 (↑m % 128 + 128)] rfl rfl ?d1 ?d2 ?d3 ?d4 ?d5 ?_))
      case d1 => exact new_one _ _ _
      case d2 => exact one_new
      case d3 => unfold maxLen; omega
      case d4 => omega
      case d5 => simp; omega
      intro v' w1 hown' hgrow _
      have hown2 : w1.ownsRow w.heap.size 5 1 v' (l ++ [UInt8.ofNat (m % 128 + 128)]).length ((l ++ [UInt8.ofNat (m % 128 + 128)]).map bv) := by
        have e : ((m : Int) % 128 + 128) = ((UInt8.ofNat (m % 128 + 128)).toNat : Int) := by rw [u8_toNat (by omega)]; omega
        rw [e] at hown'
        simpa [bv] using hown'
      have hl2 : Hid ((l ++ [UInt8.ofNat (m % 128 + 128)]) ++ putL (m / 128) = putL a) := by
        have := hl.out
        rw [putL_ge (by omega)] at this
        show _ = _
        rw [← this]; simp
      have hb1 := (hb.alloc hsz _).grown hgrow (by simp; omega) (fun k hk => (hown.lt k hk).1)
      clear hown hown' hgrow hb hi hl
      go_wp2
      go_roundw
      case rel => exact ⟨m / 128, _, hm.le (by omega), by simp, hown2, hl2, hb1⟩
      case measure => simp [intOf]; omega

end Go.Proofs.Ythliofijioghkaa

namespace Go.Proofs.Ythliofijioghkaa
open Go.RowKit
set_option linter.unusedVariables false

set_option maxHeartbeats 400000 in
set_option maxRecDepth 100000 in
theorem rget_any (s : ByteArray) (hs : s.size ≤ maxLen) (w : World) :
    Calls Try.prog 61 #[.string s] w fun e w' => RGetEnd s e ∧ Below w.heap.size w w' := by
  unfold maxLen at hs
  go_enter Try.func61, Try.ntmps61
  go_wp2
  go_loopw [4, 5] (fun n i wr => ∃ (k : Nat) (A : Int), k ≤ 10 ∧ k ≤ s.size ∧ i = .int .i64 (k : Int) ∧ n = .int .u64 A ∧ RGetRel s k A ∧ Below w.heap.size w wr) (fun _ i _ => 10 - (intOf i).toNat)
  case atStart => exact ⟨0, 0, by omega, by omega, rfl, rfl, rgetRel_zero s, Below.refl _ _⟩
  case round =>
    obtain ⟨k, A, hk, hks, rfl, rfl, hr, hb⟩ := hrel
    by_cases hlt : k < s.size
    · by_cases h10 : k < 10
      · obtain ⟨acc, rfl, hacc, hget, hinv⟩ := hr.yes h10
        by_cases h128 : s[k].toNat < 128
        · obtain ⟨x, hx, hx64, hyes, hno⟩ := rget_or (l := s.data.toList) (by simpa using hlt) h10 h128 hacc hinv
          simp only [show s.data.toList[k] = s[k] from rfl] at hx hyes hno
          by_cases hm : mayLast k s[k] = true
          · have HG := Lib.hid (get_hit hlt h10 h128 hm hget)
            have hcmp : (putL x == (s.extract 0 (k + 1)).toList) = true := by
              rw [Lib.toList_data, extract_take, (hyes hm).2]; simp
            have hxe := (hyes hm).1
            have hval : Hid ((x : Int) = ((acc + s[k].toNat % 128 * 128 ^ k : Nat) : Int)) := by show _ = _; rw [hxe]
            clear hyes hno hinv hget hr hacc hm hxe
            have q1 : IntKind.i64.wrap ((k : Int) + 1) = (k : Int) + 1 := IntWalk.i64_in _ ⟨by omega, by omega⟩
            have q2 : (0 : Int) ≤ (k : Int) + 1 := by omega
            have q3 : ((k : Int) + 1).toNat = k + 1 := by omega
            have q4 : (k : Int) + 1 ≤ (s.size : Int) := by omega
            have q5 : k + 1 ≤ s.size := by omega
            go_wp2_with fail
            go_region_with (go_at_call 45; refine (rput_any _ hx64 _).mono ?_; rintro e w1 ⟨rfl, hb1⟩)
            all_goals go_wp2
            all_goals go_ret2
            all_goals refine ⟨.inl ⟨_, _, HG.out, by rw [← hval.out]; rfl⟩, ?_⟩
            all_goals exact hb.drew.trans (hb1.mono hb.size)
          · have hm' : mayLast k s[k] = false := by simpa using hm
            have HG := Lib.hid (get_not hlt h10 h128 hm' hget)
            have hcmp : (putL x == (s.extract 0 (k + 1)).toList) = false := by
              rw [Lib.toList_data, extract_take]; simpa using hno hm'
            clear hyes hno hinv hget hr hacc hm hm'
            have q1 : IntKind.i64.wrap ((k : Int) + 1) = (k : Int) + 1 := IntWalk.i64_in _ ⟨by omega, by omega⟩
            have q2 : (0 : Int) ≤ (k : Int) + 1 := by omega
            have q3 : ((k : Int) + 1).toNat = k + 1 := by omega
            have q4 : (k : Int) + 1 ≤ (s.size : Int) := by omega
            have q5 : k + 1 ≤ s.size := by omega
            go_wp2_with fail
            go_region_with (go_at_call 45; refine (rput_any _ hx64 _).mono ?_; rintro e w1 ⟨rfl, hb1⟩)
            all_goals go_wp2
            all_goals go_ret2
            all_goals refine ⟨.inr ⟨HG.out, rfl⟩, ?_⟩
            all_goals exact hb.drew.trans (hb1.mono hb.size)
        · have hn := rget_next hlt h10 h128 hacc hget hinv
          clear hacc hr hget hinv
          go_wp2
          go_roundw
          case rel => exact ⟨k + 1, _, by omega, by omega, by go_num, rfl, hn, hb⟩
          case measure => simp [intOf]; omega
      · have HG := Lib.hid (hr.no h10)
        clear hr
        go_wp2
        go_ret2
        exact ⟨.inr ⟨HG.out, rfl⟩, hb⟩
    · by_cases h10 : k < 10
      · obtain ⟨acc, rfl, hacc, hget, hinv⟩ := hr.yes h10
        have HG := Lib.hid (get_end hlt h10 hget)
        clear hr hacc hget hinv
        go_wp2
        go_ret2
        exact ⟨.inr ⟨HG.out, rfl⟩, hb⟩
      · have HG := Lib.hid (hr.no h10)
        clear hr
        go_wp2
        go_ret2
        exact ⟨.inr ⟨HG.out, rfl⟩, hb⟩
end Go.Proofs.Ythliofijioghkaa

namespace Go.Proofs.Ythliofijioghkaa
open Go.RowKit
set_option linter.unusedVariables false

set_option maxHeartbeats 400000 in
set_option maxRecDepth 100000 in
theorem rint_any (a : Nat) (ha : a ≤ 9223372036854775807) (w : World) :
    Calls Try.prog 26 #[.int .i64 (a : Int)] w fun e w' => e = .returned (.string ⟨(putL a).toArray⟩) ∧ Below w.heap.size w w' := by
  have h1 : U64 a := by unfold U64; omega
  go_enter Try.func26, Try.ntmps26
  go_wp2_with (go_at_call 45; refine (rput_any _ h1 _).mono ?_; rintro e w' ⟨rfl, hb⟩)
  go_ret
  exact ⟨rfl, hb⟩
end Go.Proofs.Ythliofijioghkaa

namespace Go.Proofs.Ythliofijioghkaa
open Go.RowKit
set_option linter.unusedVariables false

set_option maxHeartbeats 400000 in
set_option maxRecDepth 100000 in
theorem text_any (s : ByteArray) (hs : s.size ≤ 140737488355328) (w : World) :
    Calls Try.prog 23 #[.string s] w fun e w' => e = .returned (.string ⟨(putL s.size ++ s.data.toList).toArray⟩) ∧ Below w.heap.size w w' := by
  have hl := putL_len10 (n := s.size) (by show _ < _; omega)
  go_enter Try.func23, Try.ntmps23
  go_wp2_with (go_at_call 41; refine (put_any _ (by show _ < _; omega) _).mono ?_; rintro e w' ⟨rfl, hb⟩)
  go_ret
  refine ⟨?_, hb⟩
  rw [text_form]
  rfl

set_option maxHeartbeats 400000 in
set_option maxRecDepth 100000 in
theorem rtext_any (s : ByteArray) (hs : s.size ≤ 140737488355328) (w : World) :
    Calls Try.prog 27 #[.string s] w fun e w' => e = .returned (.string ⟨(putL s.size ++ s.data.toList).toArray⟩) ∧ Below w.heap.size w w' := by
  have hl := putL_len10 (n := s.size) (by unfold U64; omega)
  go_enter Try.func27, Try.ntmps27
  go_wp2_with (go_at_call 26; refine (rint_any _ (by omega) _).mono ?_; rintro e w' ⟨rfl, hb⟩)
  go_ret
  refine ⟨?_, hb⟩
  rw [text_form]
  rfl

theorem put_300 (w : World) : Calls Try.prog 41 #[.int .u64 300] w fun e w' => e = .returned (.string ⟨#[172, 2]⟩) ∧ Below w.heap.size w w' := by
  have h := put_any 300 (by unfold U64; omega) w
  rw [show putL 300 = [172, 2] by rw [putL_ge (by omega), putL_lt (by omega)]; rfl] at h
  exact h

theorem text_ab (w : World) : Calls Try.prog 23 #[.string ⟨#[97, 98]⟩] w fun e w' => e = .returned (.string ⟨#[2, 97, 98]⟩) ∧ Below w.heap.size w w' := by
  have h := text_any ⟨#[97, 98]⟩ (by decide) w
  rw [show putL (ByteArray.size ⟨#[97, 98]⟩) = [2] from putL_lt (by decide)] at h
  exact h

end Go.Proofs.Ythliofijioghkaa

namespace Go.Proofs.Ythliofijioghkaa
open Go.RowKit
set_option linter.unusedVariables false

set_option maxHeartbeats 400000 in
set_option maxRecDepth 100000 in
theorem bad_any {w : World} {b : Nat} {R : Option (List UInt8)} (h : RDE w b R) :
    Calls Try.prog 50 #[.pointer (some ⟨b, 0, none⟩)] w fun e w' => e = .returned (.bool R.isNone) ∧ w = w' := by
  obtain ⟨s, ⟨ht, h0, h1, f0, f1, hz⟩⟩ := h
  go_enter Try.func50, Try.ntmps50
  go_wp2
  go_ret
  exact ⟨rfl, rfl⟩

set_option maxHeartbeats 400000 in
set_option maxRecDepth 100000 in
theorem spoil_any {w : World} {b : Nat} {R : Option (List UInt8)} (h : RDE w b R) :
    Calls Try.prog 48 #[.pointer (some ⟨b, 0, none⟩)] w fun e w' => e = .returned (.tuple #[]) ∧ RDE w' b none ∧ w.grownBy w' (some b) := by
  obtain ⟨s, h⟩ := h
  have hr := Lib.hid (rd_fail h)
  obtain ⟨ht, h0, h1, f0, f1, hz⟩ := h
  go_enter Try.func48, Try.ntmps48
  go_wp2
  go_end0
  exact ⟨rfl, hr.out, fail_grown w b⟩

set_option maxHeartbeats 400000 in
set_option maxRecDepth 100000 in
theorem fail_any {w : World} {b : Nat} {R : Option (List UInt8)} (h : RDE w b R) :
    Calls Try.prog 53 #[.pointer (some ⟨b, 0, none⟩)] w fun e w' => e = .returned (.tuple #[]) ∧ RDE w' b none ∧ w.grownBy w' (some b) := by
  obtain ⟨s, h⟩ := h
  have hr := Lib.hid (rd_fail h)
  obtain ⟨ht, h0, h1, f0, f1, hz⟩ := h
  go_enter Try.func53, Try.ntmps53
  go_wp2
  go_end0
  exact ⟨rfl, hr.out, fail_grown w b⟩

set_option maxHeartbeats 400000 in
set_option maxRecDepth 100000 in
theorem end_any {w : World} {b : Nat} {R : Option (List UInt8)} (h : RDE w b R) :
    Calls Try.prog 34 #[.pointer (some ⟨b, 0, none⟩)] w fun e w' => e = .returned (.bool (endS R)) ∧ w = w' := by
  have hb := bad_any h
  obtain ⟨s, ⟨ht, h0, h1, f0, f1, hz⟩⟩ := h
  cases R with
  | none =>
    go_enter Try.func34, Try.ntmps34
    go_wp2_with fail
    refine hb.mono ?_
    rintro e w' ⟨rfl, rfl⟩
    go_wp2
    go_ret
    exact ⟨rfl, rfl⟩
  | some l =>
    have he := endS_some s l ht
    go_enter Try.func34, Try.ntmps34
    go_wp2_with fail
    refine hb.mono ?_
    rintro e w' ⟨rfl, rfl⟩
    go_wp2
    go_ret
    exact ⟨by rw [he]; rfl, rfl⟩

set_option maxHeartbeats 400000 in
set_option maxRecDepth 100000 in
theorem number_any {w : World} {b : Nat} {R : Option (List UInt8)} (h : RDE w b R) (most : Nat) (hm : U64 most) :
    Calls Try.prog 49 #[.pointer (some ⟨b, 0, none⟩), .int .u64 (most : Int)] w fun e w' => e = .returned (.int .u64 ((numS most R).1 : Int)) ∧ Left w w' b (numS most R).2 := by
  have hbad := bad_any h
  have hE := Lib.hid h
  obtain ⟨s, hR⟩ := h
  have HR := Lib.hid hR
  obtain ⟨ht, h0, h1, f0, f1, hz⟩ := hR
  cases R with
  | none =>
    go_enter Try.func49, Try.ntmps49
    go_wp2_with fail
    refine hbad.mono ?_
    rintro e w' ⟨rfl, rfl⟩
    go_wp2
    go_ret
    exact ⟨rfl, hE.out, grownBy_refl _ _⟩
  | some l =>
    clear ht
    go_enter Try.func49, Try.ntmps49
    go_wp2_with fail
    refine hbad.mono ?_
    rintro e w' ⟨rfl, rfl⟩
    go_wp2_with fail
    refine (get_any _ (by unfold maxLen; omega) _).mono ?_
    rintro e w2 ⟨he, nq, rfl⟩
    have ht : s.data.toList = l := HR.out.text
    rcases he with ⟨n, k, t, hg, htt, rfl⟩ | ⟨hg, rfl⟩
    · rw [ht] at hg htt
      by_cases hn : n ≤ most
      · have HS := Lib.hid (numS_hit hg hn)
        have HT := Lib.hid (rd_set (HR.out.drewN nq) htt (size_drop ht htt))
        clear hg ht htt
        go_wp2
        go_ret
        exact ⟨by rw [HS.out]; rfl, by rw [HS.out]; exact HT.out, grownBy_trans (grownBy_drewN (grownBy_refl w _) nq) (grownBy_set _ ⟨b, 0, none⟩ _)⟩
      · have HS := Lib.hid (numS_great hg hn)
        clear hg ht htt
        go_wp2_with fail
        refine (spoil_any (hE.out.drewN nq)).mono ?_
        rintro e w3 ⟨rfl, hb3, hg3⟩
        go_wp2
        go_ret
        exact ⟨by rw [HS.out]; rfl, by rw [HS.out]; exact hb3, grownBy_trans (grownBy_drewN (grownBy_refl w _) nq) hg3⟩
    · rw [ht] at hg
      have HS := Lib.hid (numS_not (most := most) hg)
      clear hg ht
      go_wp2_with fail
      refine (spoil_any (hE.out.drewN nq)).mono ?_
      rintro e w3 ⟨rfl, hb3, hg3⟩
      go_wp2
      go_ret
      exact ⟨by rw [HS.out]; rfl, by rw [HS.out]; exact hb3, grownBy_trans (grownBy_drewN (grownBy_refl w _) nq) hg3⟩

set_option maxHeartbeats 400000 in
set_option maxRecDepth 100000 in
theorem int_any {w : World} {b : Nat} {R : Option (List UInt8)} (h : RDE w b R) (most : Int) (hm : most ≤ 9223372036854775807) :
    Calls Try.prog 32 #[.pointer (some ⟨b, 0, none⟩), .int .i64 most] w fun e w' => e = .returned (.int .i64 ((intS most R).1 : Int)) ∧ Left w w' b (intS most R).2 := by
  by_cases h0 : most < 0
  · have HS := Lib.hid (intS_neg R h0)
    go_enter Try.func32, Try.ntmps32
    go_wp2_with fail
    refine (spoil_any h).mono ?_
    rintro e w3 ⟨rfl, hb3, hg3⟩
    go_wp2
    go_ret
    exact ⟨by rw [HS.out]; rfl, by rw [HS.out]; exact hb3, hg3⟩
  · obtain ⟨m, rfl⟩ := Int.eq_ofNat_of_zero_le (by omega : 0 ≤ most)
    have HS := Lib.hid (intS_pos R m)
    have hq := numS_le m R
    have hq2 : (((numS m R).1 : Nat) : Int) ≤ 9223372036854775807 := by omega
    clear hq
    go_enter Try.func32, Try.ntmps32
    go_wp2_with fail
    refine (number_any h m (by unfold U64; omega)).mono ?_
    rintro e w3 ⟨rfl, hl⟩
    go_wp2
    go_ret
    exact ⟨by rw [HS.out]; rfl, by rw [HS.out]; exact hl⟩

/-- A text as a value. -/
def tv (l : List UInt8) : Value := .string ⟨l.toArray⟩

set_option maxHeartbeats 400000 in
set_option maxRecDepth 100000 in
theorem take_any {w : World} {b : Nat} {R : Option (List UInt8)} (h : RDE w b R) (n : Int) (hn : n ≤ 9223372036854775807) :
    Calls Try.prog 51 #[.pointer (some ⟨b, 0, none⟩), .int .i64 n] w fun e w' => e = .returned (tv (takeS n R).1) ∧ Left w w' b (takeS n R).2 := by
  have hbad := bad_any h
  have hE := Lib.hid h
  obtain ⟨s, hR⟩ := h
  have HR := Lib.hid hR
  obtain ⟨ht, h0, h1, f0, f1, hz⟩ := hR
  cases R with
  | none =>
    go_enter Try.func51, Try.ntmps51
    go_wp2_with fail
    refine hbad.mono ?_
    rintro e w' ⟨rfl, rfl⟩
    go_wp2
    go_ret
    exact ⟨rfl, hE.out, grownBy_refl _ _⟩
  | some l =>
    have ht' : s.data.toList = l := ht
    have hl := size_of ht'
    by_cases hneg : n < 0
    · have HS := Lib.hid (takeS_neg (l := l) hneg)
      clear ht ht' hl
      go_enter Try.func51, Try.ntmps51
      go_wp2_with fail
      refine hbad.mono ?_
      rintro e w' ⟨rfl, rfl⟩
      go_wp2_with fail
      refine (spoil_any hE.out).mono ?_
      rintro e w3 ⟨rfl, hb3, hg3⟩
      go_wp2
      go_ret
      exact ⟨by rw [HS.out]; rfl, by rw [HS.out]; exact hb3, hg3⟩
    · obtain ⟨m, rfl⟩ := Int.eq_ofNat_of_zero_le (by omega : 0 ≤ n)
      by_cases hmore : s.size < m
      · have HS := Lib.hid (takeS_more (l := l) (n := (m : Int)) (by omega))
        clear ht ht' hl
        go_enter Try.func51, Try.ntmps51
        go_wp2_with fail
        refine hbad.mono ?_
        rintro e w' ⟨rfl, rfl⟩
        go_wp2_with fail
        refine (spoil_any hE.out).mono ?_
        rintro e w3 ⟨rfl, hb3, hg3⟩
        go_wp2
        go_ret
        exact ⟨by rw [HS.out]; rfl, by rw [HS.out]; exact hb3, hg3⟩
      · have HS := Lib.hid (takeS_ok (l := l) (n := m) (by omega))
        have HX := Lib.hid (extract_form ht' m)
        have hxd : (s.extract m s.size).data.toList = l.drop m := by rw [extract_drop, ht']
        have HT := Lib.hid (rd_set HR.out hxd (size_drop ht' hxd))
        clear ht ht' hl hxd
        go_enter Try.func51, Try.ntmps51
        go_wp2_with fail
        refine hbad.mono ?_
        rintro e w' ⟨rfl, rfl⟩
        go_wp2
        go_ret
        exact ⟨by rw [HS.out]; show _ = Ending.returned (.string _); rw [← HX.out]; rfl, by rw [HS.out]; exact HT.out, grownBy_set _ ⟨b, 0, none⟩ _⟩

set_option maxHeartbeats 400000 in
set_option maxRecDepth 100000 in
theorem rtextv_any {w : World} {b : Nat} {R : Option (List UInt8)} (h : RDE w b R) :
    Calls Try.prog 33 #[.pointer (some ⟨b, 0, none⟩)] w fun e w' => e = .returned (tv (textS R).1) ∧ Left w w' b (textS R).2 := by
  have hbad := bad_any h
  have hE := Lib.hid h
  obtain ⟨s, hR⟩ := h
  obtain ⟨ht, h0, h1, f0, f1, hz⟩ := hR
  cases R with
  | none =>
    go_enter Try.func33, Try.ntmps33
    go_wp2_with fail
    refine hbad.mono ?_
    rintro e w' ⟨rfl, rfl⟩
    go_wp2
    go_ret
    exact ⟨rfl, hE.out, grownBy_refl _ _⟩
  | some l =>
    have hl := size_of (show s.data.toList = l from ht)
    have HS := Lib.hid (textS_int l)
    have HL := Lib.hid hl
    clear ht hl
    go_enter Try.func33, Try.ntmps33
    go_wp2_with fail
    refine hbad.mono ?_
    rintro e w' ⟨rfl, rfl⟩
    go_wp2_with fail
    rw [HL.out] at HS
    refine (int_any hE.out _ (by omega)).mono ?_
    rintro e w1 ⟨rfl, hl1⟩
    have hq := numS_le s.size (some l)
    rw [← intS_pos] at hq
    go_wp2_with fail
    refine (take_any hl1.1 _ (by omega)).mono ?_
    rintro e w2 ⟨rfl, hl2⟩
    go_wp2
    go_ret
    exact ⟨by rw [HS.out]; rfl, by rw [HS.out]; exact hl1.trans hl2⟩

end Go.Proofs.Ythliofijioghkaa

namespace Go.Proofs.Ythliofijioghkaa
open Go.RowKit
set_option linter.unusedVariables false

set_option maxHeartbeats 400000 in
set_option maxRecDepth 100000 in
theorem rend_any {w : World} {b : Nat} {R : Option (List UInt8)} (h : RDE w b R) :
    Calls Try.prog 37 #[.pointer (some ⟨b, 0, none⟩)] w fun e w' => e = .returned (.bool (endS R)) ∧ w = w' := by
  obtain ⟨s, ⟨ht, h0, h1, f0, f1, hz⟩⟩ := h
  cases R with
  | none =>
    go_enter Try.func37, Try.ntmps37
    go_wp2
    go_ret
    exact ⟨rfl, rfl⟩
  | some l =>
    have he := endS_some s l ht
    go_enter Try.func37, Try.ntmps37
    go_wp2
    go_ret
    exact ⟨by rw [he]; rfl, rfl⟩

set_option maxHeartbeats 400000 in
set_option maxRecDepth 100000 in
theorem rnum_any {w : World} {b : Nat} {R : Option (List UInt8)} (h : RDE w b R) :
    Calls Try.prog 52 #[.pointer (some ⟨b, 0, none⟩)] w fun e w' => e = .returned (.int .u64 ((numS 18446744073709551615 R).1 : Int)) ∧ Left w w' b (numS 18446744073709551615 R).2 := by
  have hE := Lib.hid h
  obtain ⟨s, hR⟩ := h
  have HR := Lib.hid hR
  obtain ⟨ht, h0, h1, f0, f1, hz⟩ := hR
  cases R with
  | none =>
    have ht' : s.data.toList = [] := ht
    clear ht
    go_enter Try.func52, Try.ntmps52
    go_wp2_with fail
    refine (rget_any _ (by unfold maxLen; omega) _).mono ?_
    rintro e w1 ⟨he, hb⟩
    rcases he with ⟨n, k, hg, rfl⟩ | ⟨hg, rfl⟩
    · rw [ht'] at hg; cases hg
    · have hE1 := Lib.hid (hE.out.below hb)
      obtain ⟨s1, ⟨_, g0, g1, k0, k1, _⟩⟩ := hE.out.below hb
      clear hg ht'
      go_wp2_with fail
      refine (fail_any hE1.out).mono ?_
      rintro e w3 ⟨rfl, hb3, hg3⟩
      go_wp2
      go_ret
      exact ⟨rfl, hb3, grownBy_trans (grownBy_below _ hb) hg3⟩
  | some l =>
    have ht' : s.data.toList = l := ht
    have HT := Lib.hid ht'
    clear ht ht'
    go_enter Try.func52, Try.ntmps52
    go_wp2_with fail
    refine (rget_any _ (by unfold maxLen; omega) _).mono ?_
    rintro e w1 ⟨he, hb⟩
    have hblt : b < w.heap.size := hE.out.lt
    have hR1 : RD w1 b (some l) s := ⟨HT.out, (hb.cell (p := ⟨b, 0, none⟩) hblt).trans h0, (hb.cell (p := ⟨b, 1, none⟩) hblt).trans h1, (hb.frozen (p := ⟨b, 0, none⟩) hblt).trans f0, (hb.frozen (p := ⟨b, 1, none⟩) hblt).trans f1, hz⟩
    have HR1 := Lib.hid hR1
    obtain ⟨_, g0, g1, k0, k1, _⟩ := hR1
    rcases he with ⟨n, k, hg, rfl⟩ | ⟨hg, rfl⟩
    · rw [HT.out] at hg
      have HS := Lib.hid (numS_top hg)
      obtain ⟨hk1, hk2⟩ := getL_pos hg
      have hk3 : k ≤ s.size := by have := size_of HT.out; omega
      have hxd : (s.extract k s.size).data.toList = l.drop k := by rw [extract_drop, HT.out]
      have HX := Lib.hid (rd_set HR1.out hxd (size_drop HT.out hxd))
      have hk0 : ((k : Int) == 0) = false := by simp; omega
      clear hg hk2 hxd
      go_wp2
      go_ret
      exact ⟨by rw [HS.out]; rfl, by rw [HS.out]; exact HX.out, grownBy_trans (grownBy_below _ hb) (grownBy_set _ ⟨b, 0, none⟩ _)⟩
    · rw [HT.out] at hg
      have HS := Lib.hid (numS_not (most := 18446744073709551615) hg)
      clear hg
      go_wp2_with fail
      refine (fail_any ⟨_, HR1.out⟩).mono ?_
      rintro e w3 ⟨rfl, hb3, hg3⟩
      go_wp2
      go_ret
      exact ⟨by rw [HS.out]; rfl, by rw [HS.out]; exact hb3, grownBy_trans (grownBy_below _ hb) hg3⟩

set_option maxHeartbeats 400000 in
set_option maxRecDepth 100000 in
theorem rtake_any {w : World} {b : Nat} {R : Option (List UInt8)} (h : RDE w b R) (n : Int) (hn : n ≤ 9223372036854775807) :
    Calls Try.prog 54 #[.pointer (some ⟨b, 0, none⟩), .int .i64 n] w fun e w' => e = .returned (tv (takeS n R).1) ∧ Left w w' b (takeS n R).2 := by
  have hE := Lib.hid h
  obtain ⟨s, hR⟩ := h
  have HR := Lib.hid hR
  obtain ⟨ht, h0, h1, f0, f1, hz⟩ := hR
  cases R with
  | none =>
    clear ht
    go_enter Try.func54, Try.ntmps54
    go_wp2_with fail
    refine (fail_any hE.out).mono ?_
    rintro e w3 ⟨rfl, hb3, hg3⟩
    go_wp2
    go_ret
    exact ⟨rfl, hb3, hg3⟩
  | some l =>
    have ht' : s.data.toList = l := ht
    have hl := size_of ht'
    by_cases hneg : n < 0
    · have HS := Lib.hid (takeS_neg (l := l) hneg)
      clear ht ht' hl
      go_enter Try.func54, Try.ntmps54
      go_wp2_with fail
      refine (fail_any hE.out).mono ?_
      rintro e w3 ⟨rfl, hb3, hg3⟩
      go_wp2
      go_ret
      exact ⟨by rw [HS.out]; rfl, by rw [HS.out]; exact hb3, hg3⟩
    · obtain ⟨m, rfl⟩ := Int.eq_ofNat_of_zero_le (by omega : 0 ≤ n)
      by_cases hmore : s.size < m
      · have HS := Lib.hid (takeS_more (l := l) (n := (m : Int)) (by omega))
        clear ht ht' hl
        go_enter Try.func54, Try.ntmps54
        go_wp2_with fail
        refine (fail_any hE.out).mono ?_
        rintro e w3 ⟨rfl, hb3, hg3⟩
        go_wp2
        go_ret
        exact ⟨by rw [HS.out]; rfl, by rw [HS.out]; exact hb3, hg3⟩
      · have HS := Lib.hid (takeS_ok (l := l) (n := m) (by omega))
        have HX := Lib.hid (extract_form ht' m)
        have hxd : (s.extract m s.size).data.toList = l.drop m := by rw [extract_drop, ht']
        have HT := Lib.hid (rd_set HR.out hxd (size_drop ht' hxd))
        clear ht ht' hl hxd
        go_enter Try.func54, Try.ntmps54
        go_wp2
        go_ret
        exact ⟨by rw [HS.out]; show _ = Ending.returned (.string _); rw [← HX.out]; rfl, by rw [HS.out]; exact HT.out, grownBy_set _ ⟨b, 0, none⟩ _⟩

set_option maxHeartbeats 400000 in
set_option maxRecDepth 100000 in
theorem rint2_any {w : World} {b : Nat} {R : Option (List UInt8)} (h : RDE w b R) (most : Int) (hm : most ≤ 9223372036854775807) (hm0 : -9223372036854775808 ≤ most) :
    Calls Try.prog 35 #[.pointer (some ⟨b, 0, none⟩), .int .i64 most] w fun e w' => e = .returned (.int .i64 ((intS most R).1 : Int)) ∧ Left w w' b (intS most R).2 := by
  have hlt := numS_lt R
  have HL := Lib.hid hlt
  clear hlt
  go_enter Try.func35, Try.ntmps35
  go_wp2_with fail
  refine (rnum_any h).mono ?_
  rintro e w1 ⟨rfl, hl⟩
  have hE1 := Lib.hid hl.1
  obtain ⟨s1, ⟨_, g0, g1, k0, k1, _⟩⟩ := hl.1
  have HG := Lib.hid hl.2
  clear hl
  have htop := intS_top most.toNat R
  generalize hQ : numS 18446744073709551615 R = Q at *
  obtain ⟨n, S⟩ := Q
  have hlt := HL.out
  clear HL
  simp only at *
  cases S with
  | none =>
    have HS : Hid (intS most R = (0, none)) := by
      by_cases h0 : most < 0
      · exact intS_neg R h0
      · rw [show ((most.toNat : Nat) : Int) = most by omega] at htop
        show _ = _
        rw [htop, if_pos (.inl rfl)]
    clear htop hQ hlt
    go_wp2_with fail
    refine (fail_any hE1.out).mono ?_
    rintro e w3 ⟨rfl, hb3, hg3⟩
    go_wp2
    go_ret
    exact ⟨by rw [HS.out]; rfl, by rw [HS.out]; exact hb3, grownBy_trans HG.out hg3⟩
  | some r =>
    by_cases h0 : most < 0
    · have HS := Lib.hid (intS_neg R h0)
      clear htop hQ hlt
      go_wp2_with fail
      refine (fail_any hE1.out).mono ?_
      rintro e w3 ⟨rfl, hb3, hg3⟩
      go_wp2
      go_ret
      exact ⟨by rw [HS.out]; rfl, by rw [HS.out]; exact hb3, grownBy_trans HG.out hg3⟩
    · obtain ⟨m, rfl⟩ := Int.eq_ofNat_of_zero_le (by omega : 0 ≤ most)
      rw [Int.toNat_natCast] at htop
      by_cases hgt : m < n
      · rw [if_pos (.inr hgt)] at htop
        have HS := Lib.hid htop
        clear htop hQ hlt
        go_wp2_with fail
        refine (fail_any hE1.out).mono ?_
        rintro e w3 ⟨rfl, hb3, hg3⟩
        go_wp2
        go_ret
        exact ⟨by rw [HS.out]; rfl, by rw [HS.out]; exact hb3, grownBy_trans HG.out hg3⟩
      · rw [if_neg (by simp; omega)] at htop
        have HS := Lib.hid htop
        clear htop hQ hlt
        go_wp2
        go_ret
        exact ⟨by rw [HS.out]; rfl, by rw [HS.out]; exact hE1.out, HG.out⟩
end Go.Proofs.Ythliofijioghkaa

namespace Go.Proofs.Ythliofijioghkaa
open Go.RowKit
set_option linter.unusedVariables false

set_option maxHeartbeats 400000 in
set_option maxRecDepth 100000 in
theorem read_any (s : ByteArray) (hs : s.size ≤ 140737488351232) (w : World) :
    Calls Try.prog 31 #[.string s] w fun e w' => e = .returned (.pointer (some ⟨w.heap.size, 0, none⟩)) ∧ RDE w' w.heap.size (some s.data.toList) ∧ Below w.heap.size w w' := by
  go_enter Try.func31, Try.ntmps31
  go_wp2
  go_ret
  exact ⟨rfl, ⟨s, rfl, World.cell?_alloc_new _ _ _ _, World.cell?_alloc_new _ _ _ _, World.frozen?_alloc_at _ _ _ _ rfl, World.frozen?_alloc_at _ _ _ _ rfl, hs⟩, (Below.refl _ _).alloc (Nat.le_refl _) _⟩

set_option maxHeartbeats 400000 in
set_option maxRecDepth 100000 in
theorem rtext2_any {w : World} {b : Nat} {R : Option (List UInt8)} (h : RDE w b R) :
    Calls Try.prog 36 #[.pointer (some ⟨b, 0, none⟩)] w fun e w' => e = .returned (tv (textS R).1) ∧ Left w w' b (textS R).2 := by
  have hlt := numS_lt R
  have HL := Lib.hid hlt
  clear hlt
  go_enter Try.func36, Try.ntmps36
  go_wp2_with fail
  refine (rnum_any h).mono ?_
  rintro e w1 ⟨rfl, hl⟩
  have htop := textS_top R
  have hE1 := Lib.hid hl.1
  have HG := Lib.hid hl.2
  generalize hQ : numS 18446744073709551615 R = Q at *
  obtain ⟨n, S⟩ := Q
  have hlt := HL.out
  clear HL
  simp only at *
  obtain ⟨s1, ⟨ht1, g0, g1, k0, k1, hz1⟩⟩ := hl.1
  clear hl
  cases S with
  | none =>
    have HS := Lib.hid htop
    clear htop hQ hlt ht1
    go_wp2_with fail
    refine (fail_any hE1.out).mono ?_
    rintro e w3 ⟨rfl, hb3, hg3⟩
    go_wp2
    go_ret
    exact ⟨by rw [HS.out]; rfl, by rw [HS.out]; exact hb3, grownBy_trans HG.out hg3⟩
  | some r =>
    have hrl : r.length = s1.size := size_of ht1
    simp only at htop
    by_cases hgt : s1.size < n
    · rw [if_pos (by omega)] at htop
      have HS := Lib.hid htop
      have hgt' : ((s1.size : Nat) : Int) < (n : Int) := by omega
      clear htop hQ hlt ht1 hrl
      go_wp2_with fail
      refine (fail_any hE1.out).mono ?_
      rintro e w3 ⟨rfl, hb3, hg3⟩
      go_wp2
      go_ret
      exact ⟨by rw [HS.out]; rfl, by rw [HS.out]; exact hb3, grownBy_trans HG.out hg3⟩
    · rw [if_neg (by omega)] at htop
      have HS := Lib.hid htop
      clear htop hQ hlt ht1 hrl
      go_wp2_with fail
      refine (rtake_any hE1.out _ (by omega)).mono ?_
      rintro e w3 ⟨rfl, hl3⟩
      go_wp2
      go_ret
      exact ⟨by rw [HS.out]; rfl, by rw [HS.out]; exact hl3.1, grownBy_trans HG.out hl3.2⟩

set_option maxHeartbeats 400000 in
set_option maxRecDepth 100000 in
theorem bad_nil (w : World) : Calls Try.prog 50 #[.pointer none] w fun e w' => e = .returned (.bool true) ∧ w = w' := by
  go_enter Try.func50, Try.ntmps50
  go_wp2
  go_ret
  exact ⟨rfl, rfl⟩

set_option maxHeartbeats 400000 in
set_option maxRecDepth 100000 in
theorem end_nil (w : World) : Calls Try.prog 34 #[.pointer none] w fun e w' => e = .returned (.bool false) ∧ w = w' := by
  go_enter Try.func34, Try.ntmps34
  go_wp2_with (go_at_call 50; refine (bad_nil _).mono ?_; rintro e w' ⟨rfl, rfl⟩)
  go_ret
  exact ⟨rfl, rfl⟩

set_option maxHeartbeats 400000 in
set_option maxRecDepth 100000 in
theorem number_nil (m : Int) (w : World) : Calls Try.prog 49 #[.pointer none, .int .u64 m] w fun e w' => e = .returned (.int .u64 0) ∧ w = w' := by
  go_enter Try.func49, Try.ntmps49
  go_wp2_with (go_at_call 50; refine (bad_nil _).mono ?_; rintro e w' ⟨rfl, rfl⟩)
  go_ret
  exact ⟨rfl, rfl⟩

set_option maxHeartbeats 400000 in
set_option maxRecDepth 100000 in
theorem text_nil (w : World) : Calls Try.prog 33 #[.pointer none] w fun e w' => e = .returned (.string ⟨#[]⟩) ∧ w = w' := by
  go_enter Try.func33, Try.ntmps33
  go_wp2_with (go_at_call 50; refine (bad_nil _).mono ?_; rintro e w' ⟨rfl, rfl⟩)
  go_ret
  exact ⟨rfl, rfl⟩

set_option maxHeartbeats 400000 in
set_option maxRecDepth 100000 in
theorem take_nil (n : Int) (w : World) : Calls Try.prog 51 #[.pointer none, .int .i64 n] w fun e w' => e = .returned (.string ⟨#[]⟩) ∧ w = w' := by
  go_enter Try.func51, Try.ntmps51
  go_wp2_with (go_at_call 50; refine (bad_nil _).mono ?_; rintro e w' ⟨rfl, rfl⟩)
  go_ret
  exact ⟨rfl, rfl⟩

set_option maxHeartbeats 400000 in
set_option maxRecDepth 100000 in
theorem int_nil (w : World) : Calls Try.prog 32 #[.pointer none, .int .i64 9] w fun e w' => e = .returned (.int .i64 0) ∧ w = w' := by
  go_enter Try.func32, Try.ntmps32
  go_wp2_with (go_at_call 49; refine (number_nil _ _).mono ?_; rintro e w' ⟨rfl, rfl⟩)
  go_ret
  exact ⟨rfl, rfl⟩

end Go.Proofs.Ythliofijioghkaa

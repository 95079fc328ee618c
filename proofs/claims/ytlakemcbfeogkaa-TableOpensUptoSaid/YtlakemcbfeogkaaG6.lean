/- Joined: M06 R06 R06b R06c R06d K06 K06m W06 W06b W06c. -/
import GoSem.ClaimData
import Derived.Test.YtlakemcbfeogkaaG5
import Derived.WalkArith
import Derived.WalkKit
import Derived.Laws.BitsAllLaws
import Derived.Lib.Hide
import Derived.Deep.WholeRow
import Derived.IntWalk
import Derived.Deep.QuietTactic
import Derived.BigQuiet
import Derived.Test.YtlakemcbfeogkaaG1
import Derived.Laws.MakeOwn
import Derived.RegionTactic
import Derived.BigRegion
import Derived.Laws.AppendOwnNone
import Derived.Deep.RegionWith

namespace Go.Proofs.Ytlakemcbfeogkaa
set_option linter.unusedVariables false

theorem xor32b {a b : Nat} (ha : a < 4294967296) (hb : b < 4294967296) : a ^^^ b < 4294967296 := Nat.xor_lt_two_pow (n := 32) ha hb
@[irreducible] def stepA (a : Nat) (c : UInt8) : Nat := (a ^^^ c.toNat) * 16777619 % 4294967296
@[irreducible] def stepB (b : Nat) (c : UInt8) : Nat := ((b + c.toNat) * 2246822507 % 4294967296) ^^^ ((b + c.toNat) * 2246822507 % 4294967296 / 8192)
@[irreducible] def startA : Nat := 2166136261
@[irreducible] def startB : Nat := 2538058380
theorem startA_eq : startA = 2166136261 := by unfold startA; rfl
theorem startB_eq : startB = 2538058380 := by unfold startB; rfl
def foldA (l : List UInt8) : Nat := l.foldl stepA startA
def foldB (l : List UInt8) : Nat := l.foldl stepB startB
@[irreducible] def hashA (s : ByteArray) : Nat := foldA s.data.toList
@[irreducible] def hashB (s : ByteArray) : Nat := foldB s.data.toList ||| 1
theorem stepA_lt (a : Nat) (c : UInt8) : stepA a c < 4294967296 := by unfold stepA; exact Nat.mod_lt _ (by omega)
theorem stepB_lt (b : Nat) (c : UInt8) : stepB b c < 4294967296 := by
  unfold stepB
  have h := Nat.mod_lt ((b + c.toNat) * 2246822507) (show 0 < 4294967296 by omega)
  exact xor32b h (by omega)
theorem foldA_snoc (l : List UInt8) (c : UInt8) : foldA (l ++ [c]) = stepA (foldA l) c := by unfold foldA; rw [List.foldl_append, List.foldl_cons, List.foldl_nil]
theorem foldB_snoc (l : List UInt8) (c : UInt8) : foldB (l ++ [c]) = stepB (foldB l) c := by unfold foldB; rw [List.foldl_append, List.foldl_cons, List.foldl_nil]
theorem foldA_lt (l : List UInt8) : foldA l < 4294967296 := by
  rcases List.eq_nil_or_concat l with rfl | ⟨q, c, rfl⟩
  · show startA < 4294967296
    rw [startA_eq]; omega
  · rw [List.concat_eq_append, foldA_snoc]; exact stepA_lt _ _
theorem foldB_lt (l : List UInt8) : foldB l < 4294967296 := by
  rcases List.eq_nil_or_concat l with rfl | ⟨q, c, rfl⟩
  · show startB < 4294967296
    rw [startB_eq]; omega
  · rw [List.concat_eq_append, foldB_snoc]; exact stepB_lt _ _
theorem foldA_next {l : List UInt8} {k : Nat} (h : k < l.length) : foldA (l.take (k + 1)) = stepA (foldA (l.take k)) l[k] := by
  rw [List.take_succ_eq_append_getElem h, foldA_snoc]
theorem foldB_next {l : List UInt8} {k : Nat} (h : k < l.length) : foldB (l.take (k + 1)) = stepB (foldB (l.take k)) l[k] := by
  rw [List.take_succ_eq_append_getElem h, foldB_snoc]
theorem hashA_lt (s : ByteArray) : hashA s < 4294967296 := by unfold hashA; exact foldA_lt _
theorem hashB_lt (s : ByteArray) : hashB s < 4294967296 := by unfold hashB; exact Nat.or_lt_two_pow (n := 32) (foldB_lt _) (by omega)

/-- The i-th bit of a key in a filter of n bytes. -/
@[irreducible] def bitK (s : ByteArray) (n i : Nat) : Nat := (hashA s + i * hashB s) % 4294967296 % (8 * n)
theorem bitK_lt (s : ByteArray) {n : Nat} (h : 0 < n) (i : Nat) : bitK s n i < 8 * n := by unfold bitK; exact Nat.mod_lt _ (by omega)

/-- A bit of a filter. -/
def hasBit (l : List UInt8) (k : Nat) : Bool := (l.getD (k / 8) 0).toNat.testBit (k % 8)
def setBit (l : List UInt8) (k : Nat) : List UInt8 := l.set (k / 8) (l.getD (k / 8) 0 ||| (1 <<< UInt8.ofNat (k % 8)))
theorem setBit_len (l : List UInt8) (k : Nat) : (setBit l k).length = l.length := by simp [setBit]
theorem one_shl (r : Nat) (h : r < 8) : ((1 : UInt8) <<< UInt8.ofNat r).toNat = 2 ^ r := by
  match r, h with
  | 0, _ | 1, _ | 2, _ | 3, _ | 4, _ | 5, _ | 6, _ | 7, _ => decide
theorem hasBit_set {l : List UInt8} {k : Nat} (h : k / 8 < l.length) (j : Nat) : hasBit (setBit l k) j = (hasBit l j || decide (j = k)) := by
  unfold hasBit setBit
  by_cases e : j / 8 = k / 8
  · rw [e]
    have e1 : (l.set (k / 8) (l.getD (k / 8) 0 ||| (1 <<< UInt8.ofNat (k % 8)))).getD (k / 8) 0 = (l.getD (k / 8) 0 ||| (1 <<< UInt8.ofNat (k % 8))) := by
      simp [List.getD, List.getElem?_set_self h]
    rw [e1, UInt8.toNat_or, Nat.testBit_or, one_shl _ (Nat.mod_lt _ (by decide)), Nat.testBit_two_pow]
    congr 1
    have : (k % 8 = j % 8) ↔ (j = k) := by omega
    simp [this]
  · have e1 : (l.set (k / 8) (l.getD (k / 8) 0 ||| (1 <<< UInt8.ofNat (k % 8)))).getD (j / 8) 0 = l.getD (j / 8) 0 := by
      simp [List.getD, List.getElem?_set_ne (fun c => e c.symm)]
    have ne : j ≠ k := fun c => e (by rw [c])
    rw [e1]
    simp [ne]
/-- The first i bits of a key. -/
def setsK (l : List UInt8) (s : ByteArray) (i : Nat) : List UInt8 := (List.range i).foldl (fun l j => setBit l (bitK s l.length j)) l
theorem setsK_len (l : List UInt8) (s : ByteArray) (i : Nat) : (setsK l s i).length = l.length := by
  unfold setsK
  induction i with
  | zero => rfl
  | succ i ih => rw [List.range_succ, List.foldl_append]; simp only [List.foldl_cons, List.foldl_nil, setBit_len]; exact ih
theorem setsK_next (l : List UInt8) (s : ByteArray) (i : Nat) : setsK l s (i + 1) = setBit (setsK l s i) (bitK s l.length i) := by
  have : setsK l s (i + 1) = setBit (setsK l s i) (bitK s (setsK l s i).length i) := by
    unfold setsK
    rw [List.range_succ, List.foldl_append, List.foldl_cons, List.foldl_nil]
  rw [this, setsK_len]
theorem setsK_has {l : List UInt8} (h : 0 < l.length) (s : ByteArray) (i j : Nat) : hasBit (setsK l s i) j = true ↔ hasBit l j = true ∨ ∃ q, q < i ∧ bitK s l.length q = j := by
  induction i with
  | zero => simp [setsK]
  | succ i ih =>
    have hb := bitK_lt s h i
    rw [setsK_next, hasBit_set (by rw [setsK_len]; omega), Bool.or_eq_true, ih, decide_eq_true_eq]
    constructor
    · rintro ((h1 | ⟨q, hq, e⟩) | e)
      · exact .inl h1
      · exact .inr ⟨q, by omega, e⟩
      · exact .inr ⟨i, by omega, e.symm⟩
    · rintro (h1 | ⟨q, hq, e⟩)
      · exact .inl (.inl h1)
      · by_cases c : q = i
        · subst c; exact .inr e.symm
        · exact .inl (.inr ⟨q, by omega, e⟩)
def setK (l : List UInt8) (s : ByteArray) : List UInt8 := setsK l s 4
theorem setK_len (l : List UInt8) (s : ByteArray) : (setK l s).length = l.length := setsK_len l s 4
/-- The filter of these keys. -/
@[irreducible] def makeL (ks : List ByteArray) (n : Nat) : List UInt8 := ks.foldl setK (List.replicate n 0)
theorem makeL_snoc (ks : List ByteArray) (s : ByteArray) (n : Nat) : makeL (ks ++ [s]) n = setK (makeL ks n) s := by simp [makeL]
theorem makeL_next {ks : List ByteArray} {k : Nat} (h : k < ks.length) (n : Nat) : makeL (ks.take (k + 1)) n = setK (makeL (ks.take k) n) ks[k] := by
  rw [List.take_succ_eq_append_getElem h, makeL_snoc]
theorem folds_len (ks : List ByteArray) : ∀ l : List UInt8, (ks.foldl setK l).length = l.length := by
  induction ks with
  | nil => intro l; rfl
  | cons s r ih => intro l; rw [List.foldl_cons, ih, setK_len]
theorem makeL_len (ks : List ByteArray) (n : Nat) : (makeL ks n).length = n := by unfold makeL; rw [folds_len]; simp
theorem folds_has (j : Nat) (ks : List ByteArray) : ∀ l : List UInt8, 0 < l.length → (hasBit (ks.foldl setK l) j = true ↔ hasBit l j = true ∨ ∃ s ∈ ks, ∃ q, q < 4 ∧ bitK s l.length q = j) := by
  induction ks with
  | nil => intro l _; simp
  | cons s r ih =>
    intro l h
    rw [List.foldl_cons, ih _ (by rw [setK_len]; exact h), setK_len]
    unfold setK
    rw [setsK_has h]
    simp [or_assoc]
theorem zeros_has (n j : Nat) : hasBit (List.replicate n 0) j = false := by
  unfold hasBit
  have : (List.replicate n (0 : UInt8)).getD (j / 8) 0 = 0 := by
    by_cases h : j / 8 < n
    · simp [List.getD, h]
    · simp [List.getD, h]
  rw [this]
  simp
theorem makeL_has {n : Nat} (h : 0 < n) (ks : List ByteArray) (j : Nat) : hasBit (makeL ks n) j = true ↔ ∃ s ∈ ks, ∃ q, q < 4 ∧ bitK s n q = j := by
  unfold makeL
  rw [folds_has j ks _ (by simpa using h), zeros_has]
  simp
/-- Has a filter the first i bits of a key? -/
@[irreducible] def hasTo (l : List UInt8) (s : ByteArray) (i : Nat) : Bool := (List.range i).all fun q => hasBit l (bitK s l.length q)
theorem hasTo_next (l : List UInt8) (s : ByteArray) (i : Nat) : hasTo l s (i + 1) = (hasTo l s i && hasBit l (bitK s l.length i)) := by
  unfold hasTo
  rw [List.range_succ, List.all_append]
  simp
theorem hasTo_iff (l : List UInt8) (s : ByteArray) (i : Nat) : hasTo l s i = true ↔ ∀ q, q < i → hasBit l (bitK s l.length q) = true := by
  unfold hasTo
  simp
theorem hasTo_not {l : List UInt8} {s : ByteArray} {i j : Nat} (h : hasBit l (bitK s l.length i) = false) (hi : i < j) : hasTo l s j = false := by
  cases e : hasTo l s j with
  | false => rfl
  | true => rw [(hasTo_iff l s j).1 e i hi] at h; cases h
/-- Has a filter a key? -/
@[irreducible] def hasK6 (l : List UInt8) (s : ByteArray) : Bool := decide (1 ≤ l.length ∧ l.length ≤ 8192) && hasTo l s 4
theorem makeL_mem {ks : List ByteArray} {s : ByteArray} (hs : s ∈ ks) {n : Nat} (h1 : 1 ≤ n) (h2 : n ≤ 8192) : hasK6 (makeL ks n) s = true := by
  unfold hasK6
  rw [makeL_len, Bool.and_eq_true, decide_eq_true_eq, hasTo_iff, makeL_len]
  exact ⟨⟨h1, h2⟩, fun q hq => (makeL_has (by omega) ks _).2 ⟨s, hs, q, hq, rfl⟩⟩
theorem makeL_more {ks ms : List ByteArray} (hsub : ∀ s ∈ ks, s ∈ ms) {n : Nat} {s : ByteArray} (h : hasK6 (makeL ks n) s = true) : hasK6 (makeL ms n) s = true := by
  unfold hasK6 at h ⊢
  rw [makeL_len, Bool.and_eq_true, decide_eq_true_eq, hasTo_iff, makeL_len] at h ⊢
  refine ⟨h.1, fun q hq => ?_⟩
  obtain ⟨t, ht, r⟩ := (makeL_has (by omega) ks _).1 (h.2 q hq)
  exact (makeL_has (by omega) ms _).2 ⟨t, hsub t ht, r⟩
theorem byte_ext {a b : UInt8} (h : ∀ r, r < 8 → a.toNat.testBit r = b.toNat.testBit r) : a = b := by
  apply UInt8.toNat_inj.1
  refine Nat.eq_of_testBit_eq fun r => ?_
  by_cases hr : r < 8
  · exact h r hr
  · have e : ∀ x : UInt8, x.toNat.testBit r = false := fun x => by
      have h1 := UInt8.toNat_lt x
      have h2 : 2 ^ 8 ≤ 2 ^ r := Nat.pow_le_pow_right (by decide) (by omega)
      exact Nat.testBit_lt_two_pow (by omega)
    rw [e, e]
theorem makeL_joins {n : Nat} (h : 0 < n) (a b : List ByteArray) {i : Nat} (hi : i < n) : (makeL a n).getD i 0 ||| (makeL b n).getD i 0 = (makeL (a ++ b) n).getD i 0 := by
  refine byte_ext fun r hr => ?_
  have key : ∀ ks : List ByteArray, ((makeL ks n).getD i 0).toNat.testBit r = true ↔ ∃ s ∈ ks, ∃ q, q < 4 ∧ bitK s n q = i * 8 + r := fun ks => by
    have := makeL_has h ks (i * 8 + r)
    unfold hasBit at this
    rwa [show (i * 8 + r) / 8 = i by omega, show (i * 8 + r) % 8 = r by omega] at this
  rw [UInt8.toNat_or, Nat.testBit_or, Bool.eq_iff_iff, Bool.or_eq_true, key, key, key]
  constructor
  · rintro (⟨s, hs, q⟩ | ⟨s, hs, q⟩)
    · exact ⟨s, List.mem_append_left _ hs, q⟩
    · exact ⟨s, List.mem_append_right _ hs, q⟩
  · rintro ⟨s, hs, q⟩
    rcases List.mem_append.1 hs with hs | hs
    · exact .inl ⟨s, hs, q⟩
    · exact .inr ⟨s, hs, q⟩
end Go.Proofs.Ytlakemcbfeogkaa

namespace Go.Proofs.Ytlakemcbfeogkaa
open Go.RowKit
set_option linter.unusedVariables false

theorem and_all (x : Nat) (h : x < 18446744073709551616) : bits .and .u64 (x : Int) 4294967295 = ((x % 4294967296 : Nat) : Int) := by
  have h1 := u64_and_nat x 4294967295 h (by omega)
  rw [show (4294967295 : Nat) = 2 ^ 32 - 1 by decide, Nat.and_two_pow_sub_one_eq_mod] at h1
  exact h1
theorem wrap64u (x : Nat) (h : x < 18446744073709551616) : IntKind.u64.wrap (x : Int) = (x : Int) := by
  rw [IntKind.wrap_u64]; omega
theorem stepA_go (a : Nat) (c : UInt8) (ha : a < 4294967296) : bits .and .u64 (IntKind.u64.wrap (bits .xor .u64 (a : Int) (c.toNat : Int) * 16777619)) 4294967295 = ((stepA a c : Nat) : Int) := by
  have hc := UInt8.toNat_lt c
  have hx := xor32b ha (show c.toNat < 4294967296 by omega)
  rw [u64_xor_nat a c.toNat (by omega) (by omega)]
  unfold stepA
  generalize a ^^^ c.toNat = x at *
  rw [show ((x : Int) * 16777619) = ((x * 16777619 : Nat) : Int) by omega, wrap64u _ (by omega), and_all _ (by omega)]
theorem tail_go (z : Nat) (hz : z < 4294967296) : bits .xor .u64 (z : Int) (IntKind.u64.wrap ((z : Int).tdiv 8192)) = ((z ^^^ (z / 8192) : Nat) : Int) := by
  have e3 : ((z : Int).tdiv 8192) = ((z / 8192 : Nat) : Int) := by rw [Int.tdiv_eq_ediv_of_nonneg (by omega)]; omega
  rw [e3, wrap64u _ (by omega), u64_xor_nat z (z / 8192) (by omega) (by omega)]
theorem stepB_go (b : Nat) (c : UInt8) (hb : b < 4294967296) :
    bits .xor .u64 (bits .and .u64 (IntKind.u64.wrap (bits .and .u64 ((b : Int) + (c.toNat : Int)) 4294967295 * 2246822507)) 4294967295)
      (IntKind.u64.wrap ((bits .and .u64 (IntKind.u64.wrap (bits .and .u64 ((b : Int) + (c.toNat : Int)) 4294967295 * 2246822507)) 4294967295).tdiv 8192)) = ((stepB b c : Nat) : Int) := by
  have hc := UInt8.toNat_lt c
  unfold stepB
  have e1 : bits .and .u64 ((b : Int) + (c.toNat : Int)) 4294967295 = (((b + c.toNat) % 4294967296 : Nat) : Int) := by
    have := and_all (b + c.toNat) (by omega)
    rwa [Int.natCast_add] at this
  have e2 : (b + c.toNat) % 4294967296 * 2246822507 % 4294967296 = (b + c.toNat) * 2246822507 % 4294967296 := by omega
  have hm : (b + c.toNat) % 4294967296 < 4294967296 := Nat.mod_lt _ (by omega)
  rw [e1]
  generalize hy : (b + c.toNat) % 4294967296 = y at *
  rw [show ((y : Int) * 2246822507) = ((y * 2246822507 : Nat) : Int) by omega, wrap64u _ (by omega), and_all _ (by omega), e2]
  have hz : (b + c.toNat) * 2246822507 % 4294967296 < 4294967296 := Nat.mod_lt _ (by omega)
  exact tail_go _ hz
theorem low32 (a : Nat) (h : a < 4294967296) : IntKind.u32.wrap (a : Int) = (a : Int) := by
  rw [IntKind.wrap_u32]; omega
theorem or_one (b : Nat) (h : b < 4294967296) : bits .or .u64 (b : Int) 1 % 4294967296 = ((b ||| 1 : Nat) : Int) := by
  have h1 : bits .or .u64 (b : Int) 1 = ((b ||| 1 : Nat) : Int) := u64_or_nat b 1 (by omega) (by omega)
  have h2 : b ||| 1 < 4294967296 := Nat.or_lt_two_pow (n := 32) h (by omega)
  rw [h1]
  omega

set_option maxHeartbeats 1000000 in
set_option maxRecDepth 100000 in
theorem rhash_any (s : ByteArray) (hs : s.size ≤ maxLen) (w : World) :
    Calls Try.prog 78 #[.string s] w fun e w' => e = .returned (.tuple #[.int .u32 (hashA s : Nat), .int .u32 (hashB s : Nat)]) ∧ w' = w := by
  unfold maxLen at hs
  have hAB := Lib.hid (And.intro foldA_lt foldB_lt)
  go_enter Try.func78, Try.ntmps78
  go_wp2
  go_loop [4, 5, 6] (fun a b i => ∃ (k : Nat), k ≤ s.size ∧ i = .int .i64 (k : Int) ∧ a = .int .u64 (foldA (s.data.toList.take k) : Nat) ∧ b = .int .u64 (foldB (s.data.toList.take k) : Nat)) (fun _ _ i => s.size - (intOf i).toNat)
  case atStart => exact ⟨0, by omega, rfl, by show _ = Value.int .u64 (startA : Nat); rw [startA_eq]; rfl, by show _ = Value.int .u64 (startB : Nat); rw [startB_eq]; rfl⟩
  case round =>
    obtain ⟨k, hk, rfl, rfl, rfl⟩ := hrel
    by_cases hlt : k < s.size
    · have ha := hAB.out.1 (s.data.toList.take k)
      have hb := hAB.out.2 (s.data.toList.take k)
      have hc := UInt8.toNat_lt s[k]
      have HA := Lib.hid (foldA_next (l := s.data.toList) (k := k) (by simpa using hlt))
      have HB := Lib.hid (foldB_next (l := s.data.toList) (k := k) (by simpa using hlt))
      generalize foldA (s.data.toList.take k) = a at *
      generalize foldB (s.data.toList.take k) = b at *
      have hA := stepA_go a s[k] ha
      have hB := stepB_go b s[k] hb
      have HAA := Lib.hid hA
      have HBB := Lib.hid hB
      clear hA hB
      go_wp2
      go_round
      case rel => exact ⟨k + 1, by omega, by go_num, by rw [HA.out]; exact congrArg (Value.int .u64) HAA.out, by rw [HB.out]; exact congrArg (Value.int .u64) HBB.out⟩
      case measure => simp [intOf]; omega
    · obtain rfl : k = s.size := by omega
      have e : s.data.toList.take s.size = s.data.toList := List.take_of_length_le (by simp)
      rw [e]
      have ha := hAB.out.1 s.data.toList
      have hb := hAB.out.2 s.data.toList
      have HL := Lib.hid (low32 _ ha)
      have HO := Lib.hid (or_one _ hb)
      have HE : Hid (hashA s = foldA s.data.toList ∧ hashB s = foldB s.data.toList ||| 1) := ⟨by unfold hashA; rfl, by unfold hashB; rfl⟩
      generalize foldA s.data.toList = a at *
      generalize foldB s.data.toList = b at *
      go_wp2
      go_ret2
      exact ⟨by rw [HE.out.1, HE.out.2, ← HO.out]; rfl, rfl⟩
end Go.Proofs.Ytlakemcbfeogkaa

namespace Go.Proofs.Ytlakemcbfeogkaa
open Go.RowKit
set_option linter.unusedVariables false

/-- Four numbers: the first i of a key's bits. -/
def four (f : Nat → Nat) : Array Value := #[.int .i64 (f 0 : Nat), .int .i64 (f 1 : Nat), .int .i64 (f 2 : Nat), .int .i64 (f 3 : Nat)]
def upTo (f : Nat → Nat) (i j : Nat) : Nat := if j < i then f j else 0
theorem four_next (f : Nat → Nat) {i : Nat} (h : i < 4) : (four (upTo f i)).setIfInBounds i (.int .i64 (f i : Nat)) = four (upTo f (i + 1)) := by
  match i, h with
  | 0, _ | 1, _ | 2, _ | 3, _ => simp [four, upTo]
theorem four_all (f : Nat → Nat) : four (upTo f 4) = four f := by simp [four, upTo]
theorem four_at (f : Nat → Nat) {i : Nat} (h : i < 4) : (four f)[i]? = some (.int .i64 (f i : Nat)) := by
  match i, h with
  | 0, _ | 1, _ | 2, _ | 3, _ => rfl
theorem info4 : (Try.prog.info? 95).map (·.size) = some 4 := by kernel_rfl

theorem bit_go (a b n i : Nat) (h1 : 0 < n) (h2 : n ≤ 8192) : wrap64 (((a : Int) + (i : Int) * (b : Int)) % 4294967296 % (8 * (n : Int))) = (((a + i * b) % 4294967296 % (8 * n) : Nat) : Int) := by
  have e : (((a : Int) + (i : Int) * (b : Int)) % 4294967296 % (8 * (n : Int))) = (((a + i * b) % 4294967296 % (8 * n) : Nat) : Int) := by
    rw [Int.natCast_emod, Int.natCast_emod, Int.natCast_add, Int.natCast_mul, Int.natCast_mul]
    rfl
  have hl : (a + i * b) % 4294967296 % (8 * n) < 8 * n := Nat.mod_lt _ (by omega)
  rw [e, IntWalk.wrap64_in _ (by omega)]
theorem block_other {w : World} {b i k : Nat} {v : Value} (e : k ≠ b) : (w.setCell ⟨b, i, none⟩ v).heap[k]? = w.heap[k]? := Below.heap_setCell _ _ _ _ (fun e2 => e (by first | exact e2 | exact e2.symm))

set_option maxHeartbeats 1000000 in
set_option maxRecDepth 100000 in
theorem rbits_any (s : ByteArray) (hs : s.size ≤ maxLen) (n : Nat) (h1 : 0 < n) (h2 : n ≤ 8192) (w : World) :
    Calls Try.prog 54 #[.string s, .int .i64 (n : Nat)] w fun e w' => e = .returned (.agg (four (bitK s n))) ∧ Below w.heap.size w w' := by
  have hA := hashA_lt s
  have hB := hashB_lt s
  have HK : Hid (∀ i, bitK s n i = (hashA s + i * hashB s) % 4294967296 % (8 * n)) := fun i => by unfold bitK; rfl
  have hcall := fun w => rhash_any s hs w
  generalize bitK s n = f at *
  generalize hashA s = a at *
  generalize hashB s = b at *
  go_enter Try.func54, Try.ntmps54
  go_wp2_with fail
  refine (hcall _).mono ?_
  rintro e w1 ⟨rfl, rfl⟩
  go_wp2
  go_loopw [8] (fun iv wr => ∃ i : Nat, i ≤ 4 ∧ iv = .int .i64 (i : Int) ∧ wr.heap[w.heap.size]? = some (.cells (four (fun _ => 0)) 95 (0, 0)) ∧ wr.heap[w.heap.size + 1]? = some (.cells (four (upTo f i)) 95 (0, 0)) ∧ Below w.heap.size w wr) (fun iv _ => 4 - (intOf iv).toNat)
  case atStart =>
    have s1 := heap_alloc_new w (.cells (four (fun _ => 0)) 95)
    have s2 := heap_alloc_new (w.alloc (.cells (four (fun _ => 0)) 95)) (.cells (four (fun _ => 0)) 95)
    rw [World.size_alloc] at s2
    exact ⟨0, by omega, rfl, (Below.heap_alloc (w.alloc (.cells (four (fun _ => 0)) 95)) (.cells (four (fun _ => 0)) 95) w.heap.size (by simp)).trans s1, s2, ((Below.refl _ w).alloc (Nat.le_refl _) _).alloc (by simp) _⟩
  case round =>
    obtain ⟨i, hi, rfl, g0, g1, hb⟩ := hrel
    by_cases hlt : i < 4
    · have c0 : wr.cell? ⟨w.heap.size + 1, i, none⟩ = some (.int .i64 (upTo f i i : Nat)) := by rw [block_cell g1]; exact four_at _ hlt
      have f0 : wr.frozen? ⟨w.heap.size + 1, i, none⟩ = false := block_free g1 i
      have HV : Hid (wrap64 (((a : Int) + (i : Int) * (b : Int)) % 4294967296 % (8 * (n : Int))) = ((f i : Nat) : Int)) := by
        show _ = _
        rw [bit_go a b n i h1 h2, HK.out i]
      have G0 := Lib.hid g0
      have G1 := Lib.hid g1
      have HB := Lib.hid hb
      clear g0 g1 hb
      go_wp2
      go_roundw
      case rel =>
        refine ⟨i + 1, by omega, by go_num, ?_, ?_, ?_⟩
        · exact (block_other (by omega)).trans G0.out
        · rw [HV.out, ← four_next f hlt]
          exact block_set G1.out i _
        · exact HB.out.setCell (p := ⟨w.heap.size + 1, i, none⟩) (by simp) _
      case measure => simp [intOf]; omega
    · obtain rfl : i = 4 := by omega
      rw [four_all] at g1
      have q0 : ∀ j, wr.frozen? ⟨w.heap.size, j, none⟩ = false := block_free g0
      have p0 : wr.cell? ⟨w.heap.size, 0, none⟩ = some (.int .i64 0) := by rw [block_cell g0]; rfl
      have p1 : wr.cell? ⟨w.heap.size, 1, none⟩ = some (.int .i64 0) := by rw [block_cell g0]; rfl
      have p2 : wr.cell? ⟨w.heap.size, 2, none⟩ = some (.int .i64 0) := by rw [block_cell g0]; rfl
      have p3 : wr.cell? ⟨w.heap.size, 3, none⟩ = some (.int .i64 0) := by rw [block_cell g0]; rfl
      have r0 : wr.cell? ⟨w.heap.size + 1, 0, none⟩ = some (.int .i64 (f 0 : Nat)) := by rw [block_cell g1]; rfl
      have r1 : wr.cell? ⟨w.heap.size + 1, 1, none⟩ = some (.int .i64 (f 1 : Nat)) := by rw [block_cell g1]; rfl
      have r2 : wr.cell? ⟨w.heap.size + 1, 2, none⟩ = some (.int .i64 (f 2 : Nat)) := by rw [block_cell g1]; rfl
      have r3 : wr.cell? ⟨w.heap.size + 1, 3, none⟩ = some (.int .i64 (f 3 : Nat)) := by rw [block_cell g1]; rfl
      have G0 := Lib.hid g0
      have HB := Lib.hid hb
      clear g0 g1 hb
      have hld := block_set (block_set (block_set (block_set G0.out 0 (.int .i64 (f 0 : Nat))) 1 (.int .i64 (f 1 : Nat))) 2 (.int .i64 (f 2 : Nat))) 3 (.int .i64 (f 3 : Nat))
      have HLD := Lib.hid hld
      clear hld
      go_wp2
      refine bodyPost_ret (v := .agg (four f)) (results_cell_row rfl _ _ w.heap.size _ (four f) (0, 0) _ rfl HLD.out Try.underlying95 rfl info4) rfl ⟨rfl, ?_⟩
      exact (((HB.out.setCell (p := ⟨w.heap.size, 0, none⟩) (Nat.le_refl _) _).setCell (p := ⟨w.heap.size, 1, none⟩) (Nat.le_refl _) _).setCell (p := ⟨w.heap.size, 2, none⟩) (Nat.le_refl _) _).setCell (p := ⟨w.heap.size, 3, none⟩) (Nat.le_refl _) _
end Go.Proofs.Ytlakemcbfeogkaa

namespace Go.Proofs.Ytlakemcbfeogkaa
open Go.RowKit
set_option linter.unusedVariables false

theorem bit_even (x r : Nat) : (((x : Int) / 2 ^ r).tmod 2 == 0) = !x.testBit r := by
  have e : ((x : Int) / 2 ^ r).tmod 2 = ((x / 2 ^ r % 2 : Nat) : Int) := by
    have e1 : ((x : Int) / 2 ^ r) = ((x / 2 ^ r : Nat) : Int) := by rw [Int.natCast_ediv, Int.natCast_pow]; rfl
    rw [e1, Int.tmod_eq_emod_of_nonneg (Int.natCast_nonneg _), Int.natCast_emod]
    rfl
  rw [e, Nat.testBit_eq_decide_div_mod_eq]
  have hm : x / 2 ^ r % 2 < 2 := Nat.mod_lt _ (by omega)
  generalize x / 2 ^ r % 2 = m at *
  match m, hm with
  | 0, _ => rfl
  | 1, _ => rfl
theorem hasBit_at {t : ByteArray} {k q r : Nat} (hq : k / 8 = q) (hr : k % 8 = r) (h : q < t.size) : hasBit t.data.toList k = t[q].toNat.testBit r := by
  unfold hasBit
  rw [hq, hr]
  have : t.data.toList.getD q 0 = t[q] := by
    have h' : q < t.data.toList.length := by simpa using h
    simp only [List.getD, List.getElem?_eq_getElem h', Option.getD_some]
    simp
    rfl
  rw [this]
theorem drawnC (w : World) (n : Nat) : Below w.heap.size w (w.drewN n) := below_drewN (Below.refl _ w) n

set_option maxHeartbeats 1000000 in
set_option maxRecDepth 100000 in
theorem rhas_any (t s : ByteArray) (ht : t.size ≤ maxLen) (hs : s.size ≤ maxLen) (w : World) :
    Calls Try.prog 42 #[.string t, .string s] w fun e w' => e = .returned (.bool (hasK6 t.data.toList s)) ∧ Below w.heap.size w w' := by
  have hm : t.size ≤ 9223372036854775807 := by unfold maxLen at ht; omega
  by_cases h1 : 1 ≤ t.size ∧ t.size ≤ 8192
  · have hK : hasK6 t.data.toList s = hasTo t.data.toList s 4 := by
      unfold hasK6
      rw [show t.data.toList.length = t.size by simp, decide_eq_true h1, Bool.true_and]
    rw [hK]
    obtain ⟨h1, h2⟩ := h1
    have hcall := fun w => rbits_any s hs t.size (by omega) h2 w
    have hlt8 := bitK_lt s (n := t.size) (by omega)
    have HT : Hid (∀ i, hasTo t.data.toList s (i + 1) = (hasTo t.data.toList s i && hasBit t.data.toList (bitK s t.size i))) := fun i => by
      have := hasTo_next t.data.toList s i
      rwa [show t.data.toList.length = t.size by simp] at this
    generalize bitK s t.size = f at *
    go_enter Try.func42, Try.ntmps42
    clear hK
    go_wp2_with fail
    refine (hcall _).mono ?_
    rintro e w1 ⟨rfl, b1⟩
    have B1 := Lib.hid b1
    clear b1
    have hnw := heap_alloc_new w1 (.cells (four f) 95)
    have hbw : Below w1.heap.size w1 (w1.alloc (.cells (four f) 95)) := (Below.refl _ w1).alloc (Nat.le_refl _) _
    have HNW := Lib.hid hnw
    have HBW := Lib.hid (B1.out.trans (hbw.mono B1.out.size))
    clear hnw hbw
    unfold four at HNW HBW
    unfold four
    go_wp2
    generalize w1.alloc (.cells #[.int .i64 (f 0 : Nat), .int .i64 (f 1 : Nat), .int .i64 (f 2 : Nat), .int .i64 (f 3 : Nat)] 95) = W1 at *
    go_loopw [6] (fun iv wr => ∃ i : Nat, i ≤ 4 ∧ iv = .int .i64 (i : Int) ∧ Hid (hasTo t.data.toList s i = true) ∧ ∃ n, wr = W1.drewN n) (fun iv _ => 4 - (intOf iv).toNat)
    case atStart => exact ⟨0, by omega, rfl, (by show hasTo t.data.toList s 0 = true; unfold hasTo; rfl), 0, rfl⟩
    case round =>
      obtain ⟨i, hi, rfl, hto, n, rfl⟩ := hrel
      by_cases hlt : i < 4
      · have c0 : W1.cell? ⟨w1.heap.size, i, none⟩ = some (.int .i64 (f i : Nat)) := by rw [block_cell HNW.out]; exact four_at f hlt
        have hf := hlt8 i
        have HN := Lib.hid (HT.out i)
        generalize f i = k at *
        obtain ⟨q, hq⟩ : ∃ q, k / 8 = q := ⟨_, rfl⟩
        obtain ⟨r, hr⟩ : ∃ r, k % 8 = r := ⟨_, rfl⟩
        have d1 : ((k : Int).tdiv 8) = (q : Int) := by rw [Int.tdiv_eq_ediv_of_nonneg (by omega)]; omega
        have d2 : ((k : Int) / 8) = (q : Int) := by omega
        have d3 : wrap64 (q : Int) = (q : Int) := IntWalk.wrap64_in _ (by omega)
        have d4 : ((k : Int).tmod 8) = (r : Int) := by rw [Int.tmod_eq_emod_of_nonneg (by omega)]; omega
        have d5 : ((k : Int) % 8) = (r : Int) := by omega
        have hq1 : (0 : Int) ≤ (q : Int) := by omega
        have hq2 : (q : Int) < (t.size : Int) := by omega
        have hr1 : (0 : Int) ≤ (r : Int) := by omega
        have hr2 : (r : Int) ≤ 8 := by omega
        have HQ := Lib.hid hq
        have HR := Lib.hid hr
        clear hq hr hf
        have hqn : q < t.size := by omega
        have hbit := hasBit_at HQ.out HR.out hqn
        have hev := bit_even t[q].toNat r
        have HNX : Hid (t[q].toNat.testBit r = true → hasTo t.data.toList s (i + 1) = true) := fun e => by rw [HN.out, hto.out, hbit, e]; rfl
        have HNO : Hid (t[q].toNat.testBit r = false → hasTo t.data.toList s 4 = false) := fun e => by
          have e1 : hasTo t.data.toList s (i + 1) = false := by rw [HN.out, hbit, e, Bool.and_false]
          cases h4 : hasTo t.data.toList s 4 with
          | false => rfl
          | true =>
            have := (hasTo_iff t.data.toList s (i + 1)).2 (fun j hj => (hasTo_iff t.data.toList s 4).1 h4 j (by omega))
            rw [e1] at this; cases this
        clear hbit HN
        go_wp2_with fail
        go_quiet (fail)
        cases htb : t[q].toNat.testBit r with
        | true =>
          have HA := Lib.hid (HNX.out htb)
          clear hev HNX HNO htb
          go_wp2
          go_roundw
          case rel => exact ⟨i + 1, by omega, by go_num, HA.out, _, rfl⟩
          case measure => simp [intOf]; omega
        | false =>
          have HA := Lib.hid (HNO.out htb)
          clear hev HNX HNO htb
          go_wp2
          go_ret
          exact ⟨by rw [HA.out]; rfl, by rw [World.drewN_drewN]; exact HBW.out.trans ((drawnC W1 _).mono HBW.out.size)⟩
      · obtain rfl : i = 4 := by omega
        have HE := Lib.hid (HBW.out.trans ((drawnC W1 n).mono HBW.out.size))
        go_wp2
        go_ret
        exact ⟨by rw [hto.out]; rfl, HE.out⟩
  · have hK : hasK6 t.data.toList s = false := by
      unfold hasK6
      rw [show t.data.toList.length = t.size by simp, decide_eq_false h1, Bool.false_and]
    rw [hK]
    by_cases h2 : t.size < 1
    · have g : ((t.size : Int) < 1) := by omega
      go_enter Try.func42, Try.ntmps42
      go_wp2
      go_ret
      exact ⟨rfl, Below.refl _ _⟩
    · have g : ¬ ((t.size : Int) < 1) := by omega
      have g2 : ((8192 : Int) < (t.size : Int)) := by omega
      go_enter Try.func42, Try.ntmps42
      go_wp2
      go_ret
      exact ⟨rfl, Below.refl _ _⟩
end Go.Proofs.Ytlakemcbfeogkaa

namespace Go.Proofs.Ytlakemcbfeogkaa
open Go.RowKit
set_option linter.unusedVariables false

/-- Bytes in a block of their own. -/
def cells8 (l : List UInt8) : Array Value := (l.map bv).toArray
def Byte8 (w : World) (B : Nat) (l : List UInt8) : Prop := w.heap[B]? = some (.cells (cells8 l) 5 (0, 0))
theorem cells8_at {l : List UInt8} {i : Nat} (h : i < l.length) : (cells8 l)[i]? = some (bv l[i]) := by simp [cells8, h]
theorem cells8_set (l : List UInt8) (i : Nat) (x : UInt8) : (cells8 l).setIfInBounds i (bv x) = cells8 (l.set i x) := by simp [cells8, List.map_set]
theorem Byte8.set {w : World} {B : Nat} {l : List UInt8} (h : Byte8 w B l) (i : Nat) (x : UInt8) : Byte8 (w.setCell ⟨B, i, none⟩ (bv x)) B (l.set i x) := by
  unfold Byte8
  rw [← cells8_set]
  exact block_set h i _
theorem Byte8.own {w : World} {B : Nat} {l : List UInt8} (h : Byte8 w B l) (hl : l.length ≤ maxLen) : w.ownsRow 0 5 1 (.slice (some ⟨B, 0, none⟩) l.length l.length) l.length (l.map bv) :=
  ⟨by simp, .inr ⟨B, l.length, cells8 l, rfl, Nat.zero_le _, h, Nat.le_refl _, hl, by simp [cells8], by simp [cells8, List.take_of_length_le]⟩⟩
theorem made_zeros (n : Nat) : madeCells (Value.int .u8 0).cells (n * 1) = cells8 (List.replicate n 0) := by
  apply Array.ext_getElem?
  intro i
  by_cases h : i < n
  · rw [cells8_at (by simpa using h)]
    simp [madeCells, Value.cells, h, bv, Nat.mod_one]
  · rw [Array.getElem?_eq_none (by simp [madeCells]; omega), Array.getElem?_eq_none (by simp [cells8]; omega)]
theorem or_bit (x : UInt8) {r : Nat} (h : r < 8) : bits .or .u8 (x.toNat : Int) ((2 : Int) ^ r % 256) = ((x ||| (1 <<< UInt8.ofNat r)).toNat : Int) := by
  have hx := UInt8.toNat_lt x
  have hp : 2 ^ r ≤ 2 ^ 7 := Nat.pow_le_pow_right (by omega) (by omega)
  have hp0 : 0 < 2 ^ r := Nat.pow_pos (by omega)
  have e1 : (2 : Int) ^ r % 256 = ((2 ^ r : Nat) : Int) := by
    rw [show (2 : Int) ^ r = ((2 ^ r : Nat) : Int) by simp]
    omega
  rw [e1, u8_or_nat _ _ (by omega) (by omega), UInt8.toNat_or, one_shl r h]

theorem setBit_at {l : List UInt8} {k j r : Nat} (hj : k / 8 = j) (hr : k % 8 = r) (h : j < l.length) : setBit l k = l.set j (l[j] ||| (1 <<< UInt8.ofNat r)) := by
  have e : l.getD j 0 = l[j] := by simp [List.getD, h]
  unfold setBit
  rw [hj, hr, e]
theorem split8 {K j r : Nat} (hj : K / 8 = j) (hr : K % 8 = r) : ((K : Int).tdiv 8) = (j : Int) ∧ ((K : Int) / 8) = (j : Int) ∧ ((K : Int).tmod 8) = (r : Int) ∧ ((K : Int) % 8) = (r : Int) ∧ r < 8 := by
  have d2 : ((K : Int) / 8) = (j : Int) := by omega
  have d5 : ((K : Int) % 8) = (r : Int) := by omega
  exact ⟨by rw [Int.tdiv_eq_ediv_of_nonneg (Int.natCast_nonneg _)]; exact d2, d2, by rw [Int.tmod_eq_emod_of_nonneg (Int.natCast_nonneg _)]; exact d5, d5, by omega⟩
theorem wrap_small {j : Nat} (h : j ≤ 8192) : wrap64 (j : Int) = (j : Int) := IntWalk.wrap64_in _ (by omega)
theorem wrapi_small {j : Nat} (h : j ≤ 8192) : IntKind.i64.wrap (j : Int) = (j : Int) := by rw [IntKind.wrap_i64]; omega
/-- What Make answers. -/
@[irreducible] def makeS (ks : List ByteArray) (n : Int) : ByteArray := if 1 ≤ n ∧ n ≤ 8192 then ⟨(makeL ks n.toNat).toArray⟩ else ⟨#[]⟩
@[irreducible] def makeE (n : Int) : Nat := if 1 ≤ n ∧ n ≤ 8192 then 0 else 1

set_option maxHeartbeats 2000000 in
set_option maxRecDepth 100000 in
theorem rmake_any (a : Option Addr) (c : Nat) (ks : List ByteArray) (w : World) (h : Row1 w a ks.length (fun i => .string (ks.getD i ByteArray.empty))) (hs : ∀ i, (ks.getD i ByteArray.empty).size ≤ maxLen) (n : Int) (hn : (Lit.int .i64 n).wf = true) :
    Calls Try.prog 32 #[.slice a ks.length c, .int .i64 n] w fun e w' => e = .returned (.tuple #[.string (makeS ks n), .int .i64 (makeE n : Nat)]) ∧ Below w.heap.size w w' := by
  have hnb := bounds_i64 hn
  have hmax := h.max
  clear hn
  by_cases hr : 1 ≤ n ∧ n ≤ 8192
  · obtain ⟨m, rfl⟩ : ∃ m : Nat, n = (m : Int) := ⟨n.toNat, by omega⟩
    have eS : makeS ks (m : Int) = ⟨(makeL ks m).toArray⟩ := by unfold makeS; rw [if_pos hr]; simp
    have eE : makeE (m : Int) = 0 := by unfold makeE; rw [if_pos hr]
    rw [eS, eE]
    obtain ⟨hr1, hr2⟩ := hr
    have hm8 : m ≤ 8192 := by omega
    have hm0 : 0 < m := by omega
    obtain ⟨i0, hi, hz0, hz1, hz2⟩ := info_parts infoU8
    have hmk := run_make (P := Try.prog) w 58 5 i0 (.int .u8 0) Try.underlying58 hi hz0 .i64 .i64 (m : Int) (m : Int) (by omega) (by omega) (by rw [hz2]; omega) (by omega)
    rw [hz1, Int.toNat_natCast, made_zeros] at hmk
    have hB0 : Byte8 (w.alloc (.cells (cells8 (List.replicate m 0)) 5)) w.heap.size (List.replicate m 0) := heap_alloc_new _ _
    have hb0 : Below w.heap.size w (w.alloc (.cells (cells8 (List.replicate m 0)) 5)) := (Below.refl _ w).alloc (Nat.le_refl _) _
    have H := Lib.hid h
    have HS := Lib.hid hs
    have HB0 := Lib.hid hB0
    have Hb0 := Lib.hid hb0
    clear h hs hB0 hb0 eS eE hi hz0 hz1 hz2
    go_enter Try.func32, Try.ntmps32
    go_wp2
    generalize w.alloc (.cells (cells8 (List.replicate m 0)) 5) = W0 at *
    go_loopw [7] (fun iv wr => ∃ k : Nat, k ≤ ks.length ∧ iv = .int .i64 (k : Int) ∧ Hid (Byte8 wr w.heap.size (makeL (ks.take k) m) ∧ Below w.heap.size w wr)) (fun iv _ => ks.length - (intOf iv).toNat)
    case atStart =>
      have e : makeL (ks.take 0) m = List.replicate m 0 := by unfold makeL; rfl
      exact ⟨0, by omega, rfl, by rw [e]; exact HB0.out, Hb0.out⟩
    case round =>
      clear HB0 Hb0
      obtain ⟨k, hk, rfl, HR⟩ := hrel
      by_cases hlt : k < ks.length
      · obtain ⟨b, off, ha, hbl, hc⟩ := H.out.at hlt
        subst ha
        have hck : wr.cell? ⟨b, off + k, none⟩ = some (.string (ks.getD k ByteArray.empty)) := (HR.out.2.cell hbl).trans hc
        have hgd : ks.getD k ByteArray.empty = ks[k] := by simp [List.getD, hlt]
        have hsz := HS.out k
        have HN := Lib.hid (makeL_next hlt m)
        have hlen := makeL_len (ks.take k) m
        rw [hgd] at hck hsz
        generalize ks[k] = s at *
        generalize makeL (ks.take k) m = L at *
        have hcall := fun w => rbits_any s hsz m hm0 hm8 w
        have hfl := bitK_lt s (n := m) hm0
        have HST : Hid (∀ q, setsK L s (q + 1) = setBit (setsK L s q) (bitK s m q)) := fun q => by rw [setsK_next, hlen]
        have HSL := Lib.hid (fun q => (setsK_len L s q).trans hlen)
        have HS4 : Hid (setsK L s 4 = setK L s) := rfl
        have HS0 : Hid (setsK L s 0 = L) := rfl
        generalize bitK s m = f at *
        clear hc hgd hsz
        go_wp2_with fail
        refine (hcall _).mono ?_
        rintro e w1 ⟨rfl, b1⟩
        have hB1 : Byte8 w1 w.heap.size L := (b1.block _ (block_lt HR.out.1)).trans HR.out.1
        have hlow : w.heap.size + 1 ≤ w1.heap.size := by have := b1.size; have := block_lt HR.out.1; omega
        have hw1 : Below w.heap.size w w1 := HR.out.2.trans (b1.mono (by have := block_lt HR.out.1; omega))
        have hnA := heap_alloc_new w1 (.cells (four f) 95)
        have hbA : Below w1.heap.size w1 (w1.alloc (.cells (four f) 95)) := (Below.refl _ w1).alloc (Nat.le_refl _) _
        have HI : Hid (Byte8 (w1.alloc (.cells (four f) 95)) w.heap.size L ∧ (w1.alloc (.cells (four f) 95)).heap[w1.heap.size]? = some (.cells (four f) 95 (0, 0)) ∧ Below w.heap.size w (w1.alloc (.cells (four f) 95))) :=
          ⟨(hbA.block _ (by omega)).trans hB1, hnA, hw1.trans (hbA.mono (by omega))⟩
        clear hB1 hw1 hnA hbA b1 hcall HR hck
        unfold four at HI
        unfold four
        go_wp2
        generalize w1.alloc (.cells #[.int .i64 (f 0 : Nat), .int .i64 (f 1 : Nat), .int .i64 (f 2 : Nat), .int .i64 (f 3 : Nat)] 95) = W1 at *
        generalize w1.heap.size = ab at *
        go_loopw [9] (fun iv wr => ∃ q : Nat, q ≤ 4 ∧ iv = .int .i64 (q : Int) ∧ Hid (Byte8 wr w.heap.size (setsK L s q) ∧ wr.heap[ab]? = some (.cells (four f) 95 (0, 0)) ∧ Below w.heap.size w wr)) (fun iv _ => 4 - (intOf iv).toNat)
        case atStart => exact ⟨0, by omega, rfl, by rw [HS0.out]; exact HI.out⟩
        case round =>
          clear HI
          obtain ⟨q, hq, rfl, HR⟩ := hrel
          by_cases hlq : q < 4
          · have g1 := HR.out.1
            have c0 : wr.cell? ⟨ab, q, none⟩ = some (.int .i64 (f q : Nat)) := by rw [block_cell HR.out.2.1]; exact four_at f hlq
            have hf := hfl q
            have hl := HSL.out q
            have HN2 := Lib.hid (HST.out q)
            have HRX := HR
            generalize setsK L s q = L' at *
            generalize f q = K at *
            obtain ⟨j, hj⟩ : ∃ j, K / 8 = j := ⟨_, rfl⟩
            obtain ⟨r, hr⟩ : ∃ r, K % 8 = r := ⟨_, rfl⟩
            have hjl : j < L'.length := by omega
            have cB : wr.cell? ⟨w.heap.size, j, none⟩ = some (bv L'[j]) := by rw [block_cell g1]; exact cells8_at hjl
            have fB : wr.frozen? ⟨w.heap.size, j, none⟩ = false := block_free g1 j
            have hB := setBit_at hj hr hjl
            have hOB := or_bit L'[j] (r := r) (split8 hj hr).2.2.2.2
            obtain ⟨X, hX⟩ : ∃ X, L'[j] ||| (1 <<< UInt8.ofNat r) = X := ⟨_, rfl⟩
            rw [hX] at hB hOB
            have HB := Lib.hid hB
            have HOB := Lib.hid hOB
            clear hX hB hOB
            obtain ⟨d1, d2, d4, d5, hrlt⟩ := split8 hj hr
            have d3 : wrap64 (j : Int) = (j : Int) := wrap_small (Nat.le_of_lt (Nat.lt_of_lt_of_le (by rw [← hl]; exact hjl) hm8))
            have hjm : j < m := by rw [← hl]; exact hjl
            have d6 : IntKind.i64.wrap (j : Int) = (j : Int) := wrapi_small (Nat.le_of_lt (Nat.lt_of_lt_of_le hjm hm8))
            have hj1 : (0 : Int) ≤ (j : Int) := Int.natCast_nonneg _
            have hj2 : (j : Int) < (m : Int) := Int.ofNat_lt.2 hjm
            have hrr1 : (0 : Int) ≤ (r : Int) := Int.natCast_nonneg _
            have hrr2 : (r : Int) ≤ 8 := Int.ofNat_le.2 (Nat.le_of_lt hrlt)
            unfold bv at cB
            clear hj hr hf hl g1 HR
            go_wp2_with fail
            go_region
            rw [HOB.out]
            have HS8 := Lib.hid (HRX.out.1.set j X)
            have HS9 : Hid ((wr.setCell ⟨w.heap.size, j, none⟩ (bv X)).heap[ab]? = some (.cells (four f) 95 (0, 0))) := (block_other (by omega)).trans HRX.out.2.1
            have HSB : Hid (Below w.heap.size w ((wr.setCell ⟨w.heap.size, j, none⟩ (bv X)).drew)) := (HRX.out.2.2.setCell (p := ⟨w.heap.size, j, none⟩) (Nat.le_refl _) (bv X)).drew
            unfold bv at HS8 HS9 HSB
            go_wp2
            go_roundw
            case rel => exact ⟨q + 1, by omega, by go_num, by rw [HN2.out, HB.out]; exact ⟨HS8.out, HS9.out, HSB.out⟩⟩
            case measure => simp [intOf]; omega
          · obtain rfl : q = 4 := by omega
            go_wp2
            go_roundw
            case rel => exact ⟨k + 1, by omega, by go_num, by rw [HN.out, ← HS4.out]; exact ⟨HR.out.1, HR.out.2.2⟩⟩
            case measure => simp [intOf]; omega
      · obtain rfl : k = ks.length := by omega
        have e : ks.take ks.length = ks := List.take_length
        rw [e] at HR
        have hlen := makeL_len ks m
        obtain ⟨L, hL⟩ : ∃ L, makeL ks m = L := ⟨_, rfl⟩
        have HLL := Lib.hid hL
        rw [hL] at HR hlen
        clear hL
        have hcv := conv_own (HR.out.1.own (by rw [hlen]; unfold maxLen; omega))
        rw [hlen] at hcv
        have HE := Lib.hid HR.out.2
        clear HR
        go_wp2
        go_ret2
        exact ⟨by rw [HLL.out]; rfl, HE.out⟩
  · have eS : makeS ks n = ⟨#[]⟩ := by unfold makeS; rw [if_neg hr]
    have eE : makeE n = 1 := by unfold makeE; rw [if_neg hr]
    rw [eS, eE]
    by_cases h2 : n < 1
    · go_enter Try.func32, Try.ntmps32
      go_wp2
      go_ret2
      exact ⟨rfl, Below.refl _ _⟩
    · have g2 : 8192 < n := by omega
      go_enter Try.func32, Try.ntmps32
      go_wp2
      go_ret2
      exact ⟨rfl, Below.refl _ _⟩
end Go.Proofs.Ytlakemcbfeogkaa

namespace Go.Proofs.Ytlakemcbfeogkaa
open Go.RowKit
set_option linter.unusedVariables false

/-- Texts in a row, none beyond the reach. -/
def Keys6 (w : World) (a : Option Addr) (ks : List ByteArray) : Prop := Row1 w a ks.length (fun i => .string (ks.getD i ByteArray.empty)) ∧ ∀ i, (ks.getD i ByteArray.empty).size ≤ 140737488351232
theorem Keys6.below {w w' : World} {a : Option Addr} {ks : List ByteArray} (h : Keys6 w a ks) (t : Below w.heap.size w w') : Keys6 w' a ks := by
  refine ⟨⟨h.1.max, ?_⟩, h.2⟩
  rcases h.1.row with h0 | ⟨b, off, ha, hb, hc⟩
  · exact .inl h0
  · exact .inr ⟨b, off, ha, by have := t.size; omega, fun i hi => (t.cell (p := ⟨b, off + i, none⟩) hb).trans (hc i hi)⟩

/-- What the program's three calls do. -/
structure BloomK : Prop where
  hash : ∀ (s : ByteArray) (w : World), s.size ≤ 140737488351232 → Calls Try.prog 91 #[.string s] w fun e w' => e = .returned (.tuple #[.int .u32 (hashA s : Nat), .int .u32 (hashB s : Nat)]) ∧ Below w.heap.size w w'
  make : ∀ (a : Option Addr) (c : Nat) (ks : List ByteArray) (w : World), Keys6 w a ks → ∀ n : Int, (Lit.int .i64 n).wf = true →
    Calls Try.prog 50 #[.slice a ks.length c, .int .i64 n] w fun e w' => e = .returned (.tuple #[.string (makeS ks n), .int .i64 (makeE n : Nat)]) ∧ Below w.heap.size w w'
  has : ∀ (t s : ByteArray) (w : World), t.size ≤ 140737488351232 → s.size ≤ 140737488351232 → Calls Try.prog 88 #[.string t, .string s] w fun e w' => e = .returned (.bool (hasK6 t.data.toList s)) ∧ Below w.heap.size w w'

theorem makeS_size (ks : List ByteArray) {n : Int} (h : 1 ≤ n ∧ n ≤ 8192) : ((makeS ks n).size : Int) = n := by
  unfold makeS
  rw [if_pos h]
  show ((makeL ks n.toNat).toArray.size : Int) = n
  rw [List.size_toArray, makeL_len]
  omega
theorem makeS_small (ks : List ByteArray) (n : Int) : (makeS ks n).size ≤ 140737488351232 := by
  by_cases h : 1 ≤ n ∧ n ≤ 8192
  · have := makeS_size ks h; omega
  · unfold makeS
    rw [if_neg h]
    exact Nat.zero_le _
theorem makeS_list (ks : List ByteArray) {n : Int} (h : 1 ≤ n ∧ n ≤ 8192) : (makeS ks n).data.toList = makeL ks n.toNat := by
  unfold makeS
  rw [if_pos h]
theorem makeS_mem {ks : List ByteArray} {s : ByteArray} (hs : s ∈ ks) {n : Int} (h : 1 ≤ n ∧ n ≤ 8192) : hasK6 (makeS ks n).data.toList s = true := by
  rw [makeS_list ks h]
  exact makeL_mem hs (by omega) (by omega)
theorem has_nil (s : ByteArray) : hasK6 (⟨#[]⟩ : ByteArray).data.toList s = false := by
  unfold hasK6
  rw [decide_eq_false (by simp), Bool.false_and]

def kA : ByteArray := ⟨#[97]⟩
def kB : ByteArray := ⟨#[98]⟩

end Go.Proofs.Ytlakemcbfeogkaa

namespace Go.Proofs.Ytlakemcbfeogkaa
open Go.RowKit
set_option linter.unusedVariables false

theorem infoStr6 : (Try.prog.info? 9).map (fun i => (i.zero, i.size, i.bytes)) = some (some (.string ⟨#[]⟩), 1, 16) := by kernel_rfl
def txs6 (l : List ByteArray) : List Value := l.map fun s => .string s

set_option maxRecDepth 100000 in
/-- Texts that came in are appended to a row of the call's own. -/
theorem wpList_append_texts {w : World} {ops : Array Oper} {rest : List Oper} {o : Oper} {a : Act} {Q : Exit → Act → World → Prop} (hgd : o.guard = none) (s x : Operand)
    (ho : o.op = .call { callee := .builtin .append, args := #[s, x], argTypes := #[69, 69] })
    (base : Nat) (v : Value) (n : Nat) (xs : List Value) (hs : a.eval s = v) (hown : w.ownsRow base 9 1 v n xs)
    (a' : Option Addr) (c : Nat) (ks : List ByteArray) (hx : a.eval x = .slice a' ks.length c) (hr : Row1 w a' ks.length (fun i => .string (ks.getD i ByteArray.empty))) (hnil : a' = none → c = 0)
    (hb : n + ks.length ≤ 8388608) (hbase : base ≤ w.heap.size)
    (h : ∀ v' w', w'.ownsRow base 9 1 v' (n + ks.length) (xs ++ txs6 ks) → w.grownBy w' v.ownBlock → wpList Try.prog ops Q rest (a.put o.dst v') w') : wpList Try.prog ops Q (o :: rest) a w := by
  obtain ⟨i0, hi, hz0, hz1, hz2⟩ := info_parts infoStr6
  have one : ∀ u ∈ txs6 ks, u.oneCell' = true := fun u hu => by obtain ⟨y, _, rfl⟩ := List.mem_map.1 hu; rfl
  have hl : (txs6 ks).length = ks.length * 1 := by simp [txs6]
  cases a' with
  | none =>
    have hc := hnil rfl
    subst hc
    rcases hr.row with h0 | ⟨b, off, hab, _⟩
    · have hk : ks = [] := List.eq_nil_of_length_eq_zero h0
      subst hk
      exact wpList_append_own_none hgd s x 69 ho base 9 i0 1 Try.underlying69 hi v n xs hs hown hx (h v w (by simpa [txs6] using hown) (World.grownBy.refl w _))
    · cases hab
  | some ad =>
    refine wpList_append_own w hgd s x 69 ho base 9 i0 (.string ⟨#[]⟩) 1 16 Try.underlying69 hi hz0 hz1 hz2 rfl (by decide) v n xs hs hown ad ks.length c (txs6 ks) hx hl (fun j u hj => ?_) one (by unfold maxLen; omega) (by omega) hbase (fun v' w' h2 h3 _ => h v' w' h2 h3)
    have hjl : j < ks.length := by
      have := (List.getElem?_eq_some_iff.1 hj).1
      simpa [txs6] using this
    rcases hr.row with h0 | ⟨b, off, hab, hbl, hc⟩
    · omega
    · injection hab with hab
      subst hab
      rw [Addr.add_lit, hc j hjl]
      have : (txs6 ks)[j]? = some (.string ks[j]) := by simp [txs6, hjl]
      rw [this] at hj
      injection hj with hj
      subst hj
      simp [List.getD, hjl]
set_option maxRecDepth 100000 in
theorem keys_own {w : World} {base : Nat} {v : Value} {ks : List ByteArray} (h : w.ownsRow base 9 1 v ks.length (txs6 ks)) (hz : ∀ i, (ks.getD i ByteArray.empty).size ≤ 140737488351232) (hm : ks.length ≤ 8796093022208) : ∃ a c, v = .slice a ks.length c ∧ Keys6 w a ks := by
  have hr := h
  rcases h.2 with ⟨rfl, h0⟩ | ⟨g, cap, cur, rfl, _, hg, hle, hcm, _⟩
  · exact ⟨none, 0, by rw [h0], ⟨by omega, .inl h0⟩, hz⟩
  · refine ⟨some ⟨g, 0, none⟩, cap, rfl, ⟨by omega, .inr ⟨g, 0, rfl, block_lt hg, fun i hi => ?_⟩⟩, hz⟩
    rw [Nat.zero_add]
    refine (hr.cellAt i (by omega)).trans ?_
    have : (txs6 ks)[i]? = some (.string ks[i]) := by simp [txs6, hi]
    rw [this]
    simp [List.getD, hi]
theorem sizes_both {a b : List ByteArray} {z : Nat} (ha : ∀ i, (a.getD i ByteArray.empty).size ≤ z) (hb : ∀ i, (b.getD i ByteArray.empty).size ≤ z) : ∀ i, ((a ++ b).getD i ByteArray.empty).size ≤ z := fun i => by
  by_cases h : i < a.length
  · have : (a ++ b).getD i ByteArray.empty = a.getD i ByteArray.empty := by simp [List.getD, List.getElem?_append_left h]
    rw [this]; exact ha i
  · have : (a ++ b).getD i ByteArray.empty = b.getD (i - a.length) ByteArray.empty := by simp [List.getD, List.getElem?_append_right (Nat.le_of_not_lt h)]
    rw [this]; exact hb _
theorem more_has {ks ms : List ByteArray} (hsub : ∀ s ∈ ks, s ∈ ms) (n : Int) {s : ByteArray} (h : hasK6 (makeS ks n).data.toList s = true) : hasK6 (makeS ms n).data.toList s = true := by
  by_cases hr : 1 ≤ n ∧ n ≤ 8192
  · rw [makeS_list _ hr] at h ⊢
    exact makeL_more hsub h
  · have : makeS ks n = ⟨#[]⟩ := by unfold makeS; rw [if_neg hr]
    rw [this, has_nil] at h
    cases h

end Go.Proofs.Ytlakemcbfeogkaa

namespace Go.Proofs.Ytlakemcbfeogkaa
open Go.RowKit
set_option linter.unusedVariables false

theorem stepA_run (a : Nat) (c : UInt8) (ha : a < 4294967296) : bits .xor .u32 (a : Int) (c.toNat : Int) * 16777619 % 4294967296 = ((stepA a c : Nat) : Int) := by
  have hc := UInt8.toNat_lt c
  rw [u32_xor_nat a c.toNat ha (by omega)]
  unfold stepA
  omega
theorem stepB_run (b : Nat) (c : UInt8) (hb : b < 4294967296) :
    bits .xor .u32 (((b : Int) + (c.toNat : Int)) % 4294967296 * 2246822507 % 4294967296) (((b : Int) + (c.toNat : Int)) % 4294967296 * 2246822507 % 4294967296 / 8192) = ((stepB b c : Nat) : Int) := by
  have hc := UInt8.toNat_lt c
  have e1 : (((b : Int) + (c.toNat : Int)) % 4294967296 * 2246822507 % 4294967296) = (((b + c.toNat) * 2246822507 % 4294967296 : Nat) : Int) := by omega
  have e2 : (((b + c.toNat) * 2246822507 % 4294967296 : Nat) : Int) / 8192 = (((b + c.toNat) * 2246822507 % 4294967296 / 8192 : Nat) : Int) := by omega
  unfold stepB
  rw [e1, e2]
  exact u32_xor_nat _ _ (Nat.mod_lt _ (by omega)) (by omega)

set_option maxHeartbeats 1000000 in
set_option maxRecDepth 100000 in
theorem hash_any (s : ByteArray) (hs : s.size ≤ maxLen) (w : World) :
    Calls Try.prog 91 #[.string s] w fun e w' => e = .returned (.tuple #[.int .u32 (hashA s : Nat), .int .u32 (hashB s : Nat)]) ∧ w' = w := by
  unfold maxLen at hs
  have hAB := Lib.hid (And.intro foldA_lt foldB_lt)
  go_enter Try.func91, Try.ntmps91
  go_wp2
  go_loop [4, 5, 10] (fun a b i => ∃ (k : Nat), k ≤ s.size ∧ i = .int .i64 (k : Int) ∧ a = .int .u32 (foldA (s.data.toList.take k) : Nat) ∧ b = .int .u32 (foldB (s.data.toList.take k) : Nat)) (fun _ _ i => s.size - (intOf i).toNat)
  case atStart => exact ⟨0, by omega, rfl, by show _ = Value.int .u32 (startA : Nat); rw [startA_eq]; rfl, by show _ = Value.int .u32 (startB : Nat); rw [startB_eq]; rfl⟩
  case round =>
    obtain ⟨k, hk, rfl, rfl, rfl⟩ := hrel
    by_cases hlt : k < s.size
    · have ha := hAB.out.1 (s.data.toList.take k)
      have hb := hAB.out.2 (s.data.toList.take k)
      have hc := UInt8.toNat_lt s[k]
      have HA := Lib.hid (foldA_next (l := s.data.toList) (k := k) (by simpa using hlt))
      have HB := Lib.hid (foldB_next (l := s.data.toList) (k := k) (by simpa using hlt))
      generalize foldA (s.data.toList.take k) = a at *
      generalize foldB (s.data.toList.take k) = b at *
      go_wp2
      go_round
      case rel => exact ⟨k + 1, by omega, by go_num, by rw [HA.out]; exact congrArg (Value.int .u32) (stepA_run a _ ha), by rw [HB.out]; exact congrArg (Value.int .u32) (stepB_run b _ hb)⟩
      case measure => simp [intOf]; omega
    · obtain rfl : k = s.size := by omega
      have e : s.data.toList.take s.size = s.data.toList := List.take_of_length_le (by simp)
      rw [e]
      have ha := hAB.out.1 s.data.toList
      have hb := hAB.out.2 s.data.toList
      have HO : Hid (bits .or .u32 (foldB s.data.toList : Nat) 1 = ((foldB s.data.toList ||| 1 : Nat) : Int)) := u32_or_nat _ 1 hb (by omega)
      have HE : Hid (hashA s = foldA s.data.toList ∧ hashB s = foldB s.data.toList ||| 1) := ⟨by unfold hashA; rfl, by unfold hashB; rfl⟩
      generalize foldA s.data.toList = a at *
      generalize foldB s.data.toList = b at *
      go_wp2
      go_ret2
      exact ⟨by rw [HE.out.1, HE.out.2, ← HO.out]; rfl, rfl⟩

/-- A byte with one bit. -/
def bit8 (k : Nat) : UInt8 := 1 <<< UInt8.ofNat (k % 8)
theorem pow_bit (r : Nat) (h : r < 8) : (2 : Int) ^ r % 256 = (((1 : UInt8) <<< UInt8.ofNat r).toNat : Int) := by
  match r, h with
  | 0, _ | 1, _ | 2, _ | 3, _ | 4, _ | 5, _ | 6, _ | 7, _ => decide
set_option maxHeartbeats 1000000 in
set_option maxRecDepth 100000 in
theorem mask_any (k : Nat) (h : k < 4294967296) (w : World) :
    Calls Try.prog 74 #[.int .u32 (k : Int)] w fun e w' => e = .returned (.int .u8 ((bit8 k).toNat : Int)) ∧ w' = w := by
  obtain ⟨r, hr⟩ : ∃ r, k % 8 = r := ⟨_, rfl⟩
  have d5 : ((k : Int) % 8) = (r : Int) := by omega
  have hrlt : r < 8 := by omega
  have hp := pow_bit r hrlt
  have hr1 : (0 : Int) ≤ (r : Int) := by omega
  have hr2 : (r : Int) < 8 := by omega
  unfold bit8
  rw [hr]
  go_enter Try.func74, Try.ntmps74
  go_wp2
  go_ret
  exact ⟨by rw [← hp]; rfl, rfl⟩

/-- Four numbers of 32 bits. -/
def fourU (f : Nat → Nat) : Array Value := #[.int .u32 (f 0 : Nat), .int .u32 (f 1 : Nat), .int .u32 (f 2 : Nat), .int .u32 (f 3 : Nat)]
theorem fourU_next (f : Nat → Nat) {i : Nat} (h : i < 4) : (fourU (upTo f i)).setIfInBounds i (.int .u32 (f i : Nat)) = fourU (upTo f (i + 1)) := by
  match i, h with
  | 0, _ | 1, _ | 2, _ | 3, _ => simp [fourU, upTo]
theorem fourU_all (f : Nat → Nat) : fourU (upTo f 4) = fourU f := by simp [fourU, upTo]
theorem fourU_at (f : Nat → Nat) {i : Nat} (h : i < 4) : (fourU f)[i]? = some (.int .u32 (f i : Nat)) := by
  match i, h with
  | 0, _ | 1, _ | 2, _ | 3, _ => rfl
theorem info4u : (Try.prog.info? 112).map (·.size) = some 4 := by kernel_rfl

set_option maxHeartbeats 1000000 in
set_option maxRecDepth 100000 in
theorem bits_any (s : ByteArray) (hs : s.size ≤ maxLen) (n : Nat) (h1 : 0 < n) (h2 : n ≤ 8192) (w : World) :
    Calls Try.prog 73 #[.string s, .int .i64 (n : Nat)] w fun e w' => e = .returned (.agg (fourU (bitK s n))) ∧ Below w.heap.size w w' := by
  have hA := hashA_lt s
  have hB := hashB_lt s
  have HK : Hid (∀ i, bitK s n i = (hashA s + i * hashB s) % 4294967296 % (8 * n)) := fun i => by unfold bitK; rfl
  have hcall := fun w => hash_any s hs w
  generalize bitK s n = f at *
  generalize hashA s = a at *
  generalize hashB s = b at *
  have g8 : wrap64 (8 * (n : Int)) = 8 * (n : Int) := IntWalk.wrap64_in _ (by omega)
  have g9 : (8 * (n : Int)) % 4294967296 = 8 * (n : Int) := by omega
  have g10 : ¬ ((8 * (n : Int)) = 0) := by omega
  go_enter Try.func73, Try.ntmps73
  go_wp2_with fail
  refine (hcall _).mono ?_
  rintro e w1 ⟨rfl, rfl⟩
  go_wp2
  go_loopw [6, 14] (fun kv iv wr => ∃ (i k : Nat), i ≤ 4 ∧ iv = .int .i64 (i : Int) ∧ kv = .int .u32 (k : Int) ∧ Hid (k = (a + i * b) % 4294967296) ∧ k < 4294967296 ∧ wr.heap[w.heap.size]? = some (.cells (fourU (fun _ => 0)) 112 (0, 0)) ∧ wr.heap[w.heap.size + 1]? = some (.cells (fourU (upTo f i)) 112 (0, 0)) ∧ Below w.heap.size w wr) (fun _ iv _ => 4 - (intOf iv).toNat)
  case atStart =>
    have s1 := heap_alloc_new w (.cells (fourU (fun _ => 0)) 112)
    have s2 := heap_alloc_new (w.alloc (.cells (fourU (fun _ => 0)) 112)) (.cells (fourU (fun _ => 0)) 112)
    rw [World.size_alloc] at s2
    exact ⟨0, a, by omega, rfl, rfl, (by show a = (a + 0 * b) % 4294967296; omega), hA, (Below.heap_alloc (w.alloc (.cells (fourU (fun _ => 0)) 112)) (.cells (fourU (fun _ => 0)) 112) w.heap.size (by simp)).trans s1, s2, ((Below.refl _ w).alloc (Nat.le_refl _) _).alloc (by simp) _⟩
  case round =>
    obtain ⟨i, k, hi, rfl, rfl, hk, hkl, g0, g1, hb⟩ := hrel
    by_cases hlt : i < 4
    · have c0 : wr.cell? ⟨w.heap.size + 1, i, none⟩ = some (.int .u32 (upTo f i i : Nat)) := by rw [block_cell g1]; exact fourU_at _ hlt
      have f0 : wr.frozen? ⟨w.heap.size + 1, i, none⟩ = false := block_free g1 i
      have HV : Hid ((k : Int) % (8 * (n : Int)) = ((f i : Nat) : Int)) := by
        show _ = _
        rw [HK.out i, ← hk.out, Int.natCast_emod, Int.natCast_mul]
        rfl
      have HW : Hid (((k : Int) + (b : Int)) % 4294967296 = (((a + (i + 1) * b) % 4294967296 : Nat) : Int)) := by
        show _ = _
        rw [hk.out, Nat.add_mul, Nat.one_mul, ← Nat.add_assoc]
        generalize a + i * b = x
        omega
      have G0 := Lib.hid g0
      have G1 := Lib.hid g1
      have HB := Lib.hid hb
      clear g0 g1 hb
      go_wp2
      go_roundw
      case rel =>
        refine ⟨i + 1, (a + (i + 1) * b) % 4294967296, by omega, by go_num, ?_, rfl, Nat.mod_lt _ (by omega), ?_, ?_, ?_⟩
        · exact congrArg (Value.int .u32) HW.out
        · exact (block_other (by omega)).trans G0.out
        · rw [HV.out, ← fourU_next f hlt]
          exact block_set G1.out i _
        · exact HB.out.setCell (p := ⟨w.heap.size + 1, i, none⟩) (by simp) _
      case measure => simp [intOf]; omega
    · obtain rfl : i = 4 := by omega
      rw [fourU_all] at g1
      have q0 : ∀ j, wr.frozen? ⟨w.heap.size, j, none⟩ = false := block_free g0
      have p0 : wr.cell? ⟨w.heap.size, 0, none⟩ = some (.int .u32 0) := by rw [block_cell g0]; rfl
      have p1 : wr.cell? ⟨w.heap.size, 1, none⟩ = some (.int .u32 0) := by rw [block_cell g0]; rfl
      have p2 : wr.cell? ⟨w.heap.size, 2, none⟩ = some (.int .u32 0) := by rw [block_cell g0]; rfl
      have p3 : wr.cell? ⟨w.heap.size, 3, none⟩ = some (.int .u32 0) := by rw [block_cell g0]; rfl
      have r0 : wr.cell? ⟨w.heap.size + 1, 0, none⟩ = some (.int .u32 (f 0 : Nat)) := by rw [block_cell g1]; rfl
      have r1 : wr.cell? ⟨w.heap.size + 1, 1, none⟩ = some (.int .u32 (f 1 : Nat)) := by rw [block_cell g1]; rfl
      have r2 : wr.cell? ⟨w.heap.size + 1, 2, none⟩ = some (.int .u32 (f 2 : Nat)) := by rw [block_cell g1]; rfl
      have r3 : wr.cell? ⟨w.heap.size + 1, 3, none⟩ = some (.int .u32 (f 3 : Nat)) := by rw [block_cell g1]; rfl
      have G0 := Lib.hid g0
      have HB := Lib.hid hb
      clear g0 g1 hb
      have hld := block_set (block_set (block_set (block_set G0.out 0 (.int .u32 (f 0 : Nat))) 1 (.int .u32 (f 1 : Nat))) 2 (.int .u32 (f 2 : Nat))) 3 (.int .u32 (f 3 : Nat))
      have HLD := Lib.hid hld
      clear hld
      go_wp2
      refine bodyPost_ret (v := .agg (fourU f)) (results_cell_row rfl _ _ w.heap.size _ (fourU f) (0, 0) _ rfl HLD.out Try.underlying112 rfl info4u) rfl ⟨rfl, ?_⟩
      exact (((HB.out.setCell (p := ⟨w.heap.size, 0, none⟩) (Nat.le_refl _) _).setCell (p := ⟨w.heap.size, 1, none⟩) (Nat.le_refl _) _).setCell (p := ⟨w.heap.size, 2, none⟩) (Nat.le_refl _) _).setCell (p := ⟨w.heap.size, 3, none⟩) (Nat.le_refl _) _
end Go.Proofs.Ytlakemcbfeogkaa

namespace Go.Proofs.Ytlakemcbfeogkaa
open Go.RowKit
set_option linter.unusedVariables false

theorem text_some (t : ByteArray) (h : 0 < t.size) : (t.toList == []) = false ∧ t.toList ≠ [] := by
  have e : t.toList ≠ [] := fun e => by
    have e2 : t.toList.length = t.size := by rw [ByteArray.toList_eq]; simp
    rw [e] at e2
    simp at e2
    omega
  exact ⟨by simpa using e, e⟩
theorem index_four0 (f : Nat → Nat) : ∀ w, (Instr.index 112 (.agg (fourU f)) (.int .i64 ((0 : Nat) : Int))).run Try.prog w = .ok (.int .u32 (f 0 : Nat)) w := fun _ => by kernel_rfl
theorem index_four1 (f : Nat → Nat) : ∀ w, (Instr.index 112 (.agg (fourU f)) (.int .i64 ((1 : Nat) : Int))).run Try.prog w = .ok (.int .u32 (f 1 : Nat)) w := fun _ => by kernel_rfl
theorem index_four2 (f : Nat → Nat) : ∀ w, (Instr.index 112 (.agg (fourU f)) (.int .i64 ((2 : Nat) : Int))).run Try.prog w = .ok (.int .u32 (f 2 : Nat)) w := fun _ => by kernel_rfl
theorem index_four3 (f : Nat → Nat) : ∀ w, (Instr.index 112 (.agg (fourU f)) (.int .i64 ((3 : Nat) : Int))).run Try.prog w = .ok (.int .u32 (f 3 : Nat)) w := fun _ => by kernel_rfl
theorem index_four (f : Nat → Nat) {i : Nat} (h : i < 4) (w : World) : (Instr.index 112 (.agg (fourU f)) (.int .i64 (i : Int))).run Try.prog w = .ok (.int .u32 (f i : Nat)) w := by
  match i, h with
  | 0, _ => exact index_four0 f w
  | 1, _ => exact index_four1 f w
  | 2, _ => exact index_four2 f w
  | 3, _ => exact index_four3 f w
theorem and_pow (x r : Nat) : (((x &&& 2 ^ r : Nat) : Int) == 0) = !x.testBit r := by
  cases h : x.testBit r with
  | true =>
    have h1 : (x &&& 2 ^ r).testBit r = true := by rw [Nat.testBit_and, h, Nat.testBit_two_pow_self]; rfl
    have h2 : x &&& 2 ^ r ≠ 0 := fun e => by rw [e, Nat.zero_testBit] at h1; cases h1
    rw [beq_eq_false_iff_ne.2 (by omega)]; rfl
  | false =>
    have h1 : x &&& 2 ^ r = 0 := by
      refine Nat.eq_of_testBit_eq fun j => ?_
      rw [Nat.testBit_and, Nat.zero_testBit, Nat.testBit_two_pow]
      by_cases e : r = j
      · rw [← e, h]; rfl
      · rw [decide_eq_false e, Bool.and_false]
    rw [h1]; rfl
theorem bit_and (x : UInt8) {r : Nat} (h : r < 8) : (bits .and .u8 (x.toNat : Int) (((1 : UInt8) <<< UInt8.ofNat r).toNat : Int) == 0) = !x.toNat.testBit r := by
  have hx := UInt8.toNat_lt x
  have hp : 2 ^ r ≤ 2 ^ 7 := Nat.pow_le_pow_right (by omega) (by omega)
  rw [u8_and_nat _ _ (by omega) (by rw [one_shl r h]; omega), one_shl r h]
  exact and_pow _ _

set_option maxHeartbeats 1000000 in
set_option maxRecDepth 100000 in
theorem has_any (t s : ByteArray) (ht : t.size ≤ maxLen) (hs : s.size ≤ maxLen) (w : World) :
    Calls Try.prog 88 #[.string t, .string s] w fun e w' => e = .returned (.bool (hasK6 t.data.toList s)) ∧ Below w.heap.size w w' := by
  have hm : t.size ≤ 9223372036854775807 := by unfold maxLen at ht; omega
  by_cases h1 : 1 ≤ t.size ∧ t.size ≤ 8192
  · have hK : hasK6 t.data.toList s = hasTo t.data.toList s 4 := by
      unfold hasK6
      rw [show t.data.toList.length = t.size by simp, decide_eq_true h1, Bool.true_and]
    rw [hK]
    obtain ⟨h1, h2⟩ := h1
    obtain ⟨hne, hne2⟩ := text_some t (by omega)
    have hcall := fun w => bits_any s hs t.size (by omega) h2 w
    have hlt8 := bitK_lt s (n := t.size) (by omega)
    have HT : Hid (∀ i, hasTo t.data.toList s (i + 1) = (hasTo t.data.toList s i && hasBit t.data.toList (bitK s t.size i))) := fun i => by
      have := hasTo_next t.data.toList s i
      rwa [show t.data.toList.length = t.size by simp] at this
    generalize bitK s t.size = f at *
    go_enter Try.func88, Try.ntmps88
    clear hK
    go_wp2_with fail
    refine (hcall _).mono ?_
    rintro e w1 ⟨rfl, b1⟩
    have B1 := Lib.hid b1
    clear b1
    go_wp2
    go_loopw [18] (fun iv wr => ∃ i : Nat, i ≤ 4 ∧ iv = .int .i64 (i : Int) ∧ Hid (hasTo t.data.toList s i = true) ∧ Hid (∃ n, wr = w1.drewN n)) (fun iv _ => 4 - (intOf iv).toNat)
    case atStart => exact ⟨0, by omega, rfl, (by show hasTo t.data.toList s 0 = true; unfold hasTo; rfl), ⟨0, rfl⟩⟩
    case round =>
      obtain ⟨i, hi, rfl, hto, hwr⟩ := hrel
      by_cases hlt : i < 4
      · have c0 := fun w => index_four f hlt w
        have hf := hlt8 i
        have HN := Lib.hid (HT.out i)
        generalize f i = k at *
        obtain ⟨q, hq⟩ : ∃ q, k / 8 = q := ⟨_, rfl⟩
        obtain ⟨r, hr⟩ : ∃ r, k % 8 = r := ⟨_, rfl⟩
        have hqn : q < t.size := by omega
        have hk32 : k < 4294967296 := by omega
        have d7 : IntKind.u32.wrap (q : Int) = (q : Int) := low32 q (by omega)
        have d3 : wrap64 (q : Int) = (q : Int) := wrap_small (by omega)
        obtain ⟨d1, d2, d4, d5, hrlt⟩ := split8 hq hr
        have hq1 : (0 : Int) ≤ (q : Int) := Int.natCast_nonneg _
        have hq2 : (q : Int) < (t.size : Int) := Int.ofNat_lt.2 hqn
        have HQ := Lib.hid hq
        have HR := Lib.hid hr
        clear hq hf
        have hmask := fun w => mask_any k hk32 w
        have hbit := hasBit_at HQ.out HR.out hqn
        have hev := bit_and t[q] hrlt
        obtain ⟨M, hM⟩ : ∃ M, (1 : UInt8) <<< UInt8.ofNat r = M := ⟨_, rfl⟩
        have hb8 : bit8 k = M := by unfold bit8; rw [hr, hM]
        rw [hb8] at hmask
        rw [hM] at hev
        have HNX : Hid (t[q].toNat.testBit r = true → hasTo t.data.toList s (i + 1) = true) := fun e => by rw [HN.out, hto.out, hbit, e]; rfl
        have HNO : Hid (t[q].toNat.testBit r = false → hasTo t.data.toList s 4 = false) := fun e => by
          have e1 : hasTo t.data.toList s (i + 1) = false := by rw [HN.out, hbit, e, Bool.and_false]
          cases h4 : hasTo t.data.toList s 4 with
          | false => rfl
          | true =>
            have := (hasTo_iff t.data.toList s (i + 1)).2 (fun j hj => (hasTo_iff t.data.toList s 4).1 h4 j (by omega))
            rw [e1] at this; cases this
        clear hbit HN hr hb8 hM
        go_wp2_with fail
        go_quiet (first | (go_at_call 74; refine Calls.quiet_of_same (hmask _)))
        cases htb : t[q].toNat.testBit r with
        | true =>
          have HA := Lib.hid (HNX.out htb)
          clear hev HNX HNO htb
          go_wp2
          go_roundw
          case rel =>
            obtain ⟨n, rfl⟩ := hwr.out
            exact ⟨i + 1, by omega, by go_num, HA.out, ⟨_, by rw [World.drewN_drewN]⟩⟩
          case measure => simp [intOf]; omega
        | false =>
          have HA := Lib.hid (HNO.out htb)
          clear hev HNX HNO htb
          go_wp2
          go_ret
          obtain ⟨n, rfl⟩ := hwr.out
          exact ⟨by rw [HA.out]; rfl, by rw [World.drewN_drewN]; exact B1.out.trans ((drawnC w1 _).mono B1.out.size)⟩
      · obtain rfl : i = 4 := by omega
        obtain ⟨n, rfl⟩ := hwr.out
        have HE := Lib.hid (B1.out.trans ((drawnC w1 n).mono B1.out.size))
        go_wp2
        go_ret
        exact ⟨by rw [hto.out]; rfl, HE.out⟩
  · have hK : hasK6 t.data.toList s = false := by
      unfold hasK6
      rw [show t.data.toList.length = t.size by simp, decide_eq_false h1, Bool.false_and]
    rw [hK]
    by_cases h2 : t.size = 0
    · obtain rfl : t = ⟨#[]⟩ := by
        apply ByteArray.ext
        exact Array.eq_empty_of_size_eq_zero h2
      go_enter Try.func88, Try.ntmps88
      go_wp2
      go_ret
      exact ⟨rfl, Below.refl _ _⟩
    · obtain ⟨hne, hne2⟩ := text_some t (by omega)
      have g2 : ((8192 : Int) < (t.size : Int)) := by omega
      go_enter Try.func88, Try.ntmps88
      go_wp2
      go_ret
      exact ⟨rfl, Below.refl _ _⟩
end Go.Proofs.Ytlakemcbfeogkaa

namespace Go.Proofs.Ytlakemcbfeogkaa
open Go.RowKit
set_option linter.unusedVariables false

theorem or_mask (x y : UInt8) : bits .or .u8 (x.toNat : Int) (y.toNat : Int) = ((x ||| y).toNat : Int) := by
  have hx := UInt8.toNat_lt x
  have hy := UInt8.toNat_lt y
  rw [u8_or_nat _ _ (by omega) (by omega), UInt8.toNat_or]

set_option maxHeartbeats 1000000 in
set_option maxRecDepth 100000 in
theorem make_any (a : Option Addr) (c : Nat) (ks : List ByteArray) (w : World) (h : Row1 w a ks.length (fun i => .string (ks.getD i ByteArray.empty))) (hs : ∀ i, (ks.getD i ByteArray.empty).size ≤ maxLen) (n : Int) (hn : (Lit.int .i64 n).wf = true) :
    Calls Try.prog 50 #[.slice a ks.length c, .int .i64 n] w fun e w' => e = .returned (.tuple #[.string (makeS ks n), .int .i64 (makeE n : Nat)]) ∧ Below w.heap.size w w' := by
  have hnb := bounds_i64 hn
  have hmax := h.max
  clear hn
  by_cases hr : 1 ≤ n ∧ n ≤ 8192
  · obtain ⟨m, rfl⟩ : ∃ m : Nat, n = (m : Int) := ⟨n.toNat, by omega⟩
    have eS : makeS ks (m : Int) = ⟨(makeL ks m).toArray⟩ := by unfold makeS; rw [if_pos hr]; simp
    have eE : makeE (m : Int) = 0 := by unfold makeE; rw [if_pos hr]
    rw [eS, eE]
    obtain ⟨hr1, hr2⟩ := hr
    have hm8 : m ≤ 8192 := by omega
    have hm0 : 0 < m := by omega
    obtain ⟨i0, hi, hz0, hz1, hz2⟩ := info_parts infoU8
    have hmk := run_make (P := Try.prog) w 58 5 i0 (.int .u8 0) Try.underlying58 hi hz0 .i64 .i64 (m : Int) (m : Int) (by omega) (by omega) (by rw [hz2]; omega) (by omega)
    rw [hz1, Int.toNat_natCast, made_zeros] at hmk
    have hB0 : Byte8 (w.alloc (.cells (cells8 (List.replicate m 0)) 5)) w.heap.size (List.replicate m 0) := heap_alloc_new _ _
    have hb0 : Below w.heap.size w (w.alloc (.cells (cells8 (List.replicate m 0)) 5)) := (Below.refl _ w).alloc (Nat.le_refl _) _
    have H := Lib.hid h
    have HS := Lib.hid hs
    have HB0 := Lib.hid hB0
    have Hb0 := Lib.hid hb0
    clear h hs hB0 hb0 eS eE hi hz0 hz1 hz2
    go_enter Try.func50, Try.ntmps50
    go_wp2
    generalize w.alloc (.cells (cells8 (List.replicate m 0)) 5) = W0 at *
    go_loopw [21] (fun iv wr => ∃ k : Nat, k ≤ ks.length ∧ iv = .int .i64 (k : Int) ∧ Hid (Byte8 wr w.heap.size (makeL (ks.take k) m) ∧ Below w.heap.size w wr)) (fun iv _ => ks.length - (intOf iv).toNat)
    case atStart =>
      have e : makeL (ks.take 0) m = List.replicate m 0 := by unfold makeL; rfl
      exact ⟨0, by omega, rfl, by rw [e]; exact HB0.out, Hb0.out⟩
    case round =>
      clear HB0 Hb0
      obtain ⟨k, hk, rfl, HR⟩ := hrel
      by_cases hlt : k < ks.length
      · obtain ⟨b, off, ha, hbl, hc⟩ := H.out.at hlt
        subst ha
        have hck : wr.cell? ⟨b, off + k, none⟩ = some (.string (ks.getD k ByteArray.empty)) := (HR.out.2.cell hbl).trans hc
        have hgd : ks.getD k ByteArray.empty = ks[k] := by simp [List.getD, hlt]
        have hsz := HS.out k
        have HN := Lib.hid (makeL_next hlt m)
        have hlen := makeL_len (ks.take k) m
        rw [hgd] at hck hsz
        generalize ks[k] = s at *
        generalize makeL (ks.take k) m = L at *
        have hcall := fun w => bits_any s hsz m hm0 hm8 w
        have hfl := bitK_lt s (n := m) hm0
        have HST : Hid (∀ q, setsK L s (q + 1) = setBit (setsK L s q) (bitK s m q)) := fun q => by rw [setsK_next, hlen]
        have HSL := Lib.hid (fun q => (setsK_len L s q).trans hlen)
        have HS4 : Hid (setsK L s 4 = setK L s) := rfl
        have HS0 : Hid (setsK L s 0 = L) := rfl
        generalize bitK s m = f at *
        clear hc hgd hsz
        go_wp2_with fail
        refine (hcall _).mono ?_
        rintro e w1 ⟨rfl, b1⟩
        have hB1 : Byte8 w1 w.heap.size L := (b1.block _ (block_lt HR.out.1)).trans HR.out.1
        have hlow : w.heap.size + 1 ≤ w1.heap.size := by have := b1.size; have := block_lt HR.out.1; omega
        have hw1 : Below w.heap.size w w1 := HR.out.2.trans (b1.mono (by have := block_lt HR.out.1; omega))
        have HI : Hid (Byte8 w1 w.heap.size L ∧ Below w.heap.size w w1) := ⟨hB1, hw1⟩
        clear hB1 hw1 b1 hcall HR hck
        go_wp2
        go_loopw [28] (fun iv wr => ∃ q : Nat, q ≤ 4 ∧ iv = .int .i64 (q : Int) ∧ Hid (Byte8 wr w.heap.size (setsK L s q) ∧ Below w.heap.size w wr)) (fun iv _ => 4 - (intOf iv).toNat)
        case atStart => exact ⟨0, by omega, rfl, by rw [HS0.out]; exact HI.out⟩
        case round =>
          clear HI
          obtain ⟨q, hq, rfl, HR⟩ := hrel
          by_cases hlq : q < 4
          · have g1 := HR.out.1
            have c0 := fun w => index_four f hlq w
            have hf := hfl q
            have hl := HSL.out q
            have HN2 := Lib.hid (HST.out q)
            have HRX := HR
            generalize setsK L s q = L' at *
            generalize f q = K at *
            obtain ⟨j, hj⟩ : ∃ j, K / 8 = j := ⟨_, rfl⟩
            obtain ⟨r, hr⟩ : ∃ r, K % 8 = r := ⟨_, rfl⟩
            have hjl : j < L'.length := by omega
            have cB : wr.cell? ⟨w.heap.size, j, none⟩ = some (bv L'[j]) := by rw [block_cell g1]; exact cells8_at hjl
            have fB : wr.frozen? ⟨w.heap.size, j, none⟩ = false := block_free g1 j
            have hB := setBit_at hj hr hjl
            have hr8 : r < 8 := by rw [← hr]; exact Nat.mod_lt _ (by decide)
            have hk32 : K < 4294967296 := by omega
            have hmask := fun w => mask_any K hk32 w
            obtain ⟨M, hM⟩ : ∃ M, (1 : UInt8) <<< UInt8.ofNat r = M := ⟨_, rfl⟩
            have hb8 : bit8 K = M := by unfold bit8; rw [hr, hM]
            rw [hb8] at hmask
            rw [hM] at hB
            have hOB := or_mask L'[j] M
            obtain ⟨X, hX⟩ : ∃ X, L'[j] ||| M = X := ⟨_, rfl⟩
            rw [hX] at hB hOB
            have HB := Lib.hid hB
            have HOB := Lib.hid hOB
            clear hX hB hOB hM hb8
            have hjm : j < m := by rw [← hl]; exact hjl
            have d7 : IntKind.u32.wrap (j : Int) = (j : Int) := low32 j (by omega)
            have d3 : wrap64 (j : Int) = (j : Int) := wrap_small (Nat.le_of_lt (Nat.lt_of_lt_of_le hjm hm8))
            have d6 : IntKind.i64.wrap (j : Int) = (j : Int) := wrapi_small (Nat.le_of_lt (Nat.lt_of_lt_of_le hjm hm8))
            obtain ⟨d1, d2, d4, d5, hrlt⟩ := split8 hj hr
            have hj1 : (0 : Int) ≤ (j : Int) := Int.natCast_nonneg _
            have hj2 : (j : Int) < (m : Int) := Int.ofNat_lt.2 hjm
            unfold bv at cB
            clear hj hr hf hl g1 HR
            have HS8 := Lib.hid (HRX.out.1.set j X)
            have HSB : Hid (Below w.heap.size w ((wr.setCell ⟨w.heap.size, j, none⟩ (bv X)).drew)) := (HRX.out.2.setCell (p := ⟨w.heap.size, j, none⟩) (Nat.le_refl _) (bv X)).drew
            unfold bv at HS8 HSB
            have hmea : 4 - (intOf (.int .i64 ((q : Int) + 1))).toNat < 4 - (intOf (.int .i64 (q : Int))).toNat := by simp [intOf]; omega
            go_wp2_with fail
            go_region_with (go_at_call 74; refine (hmask _).mono ?_; rintro e w2 ⟨rfl, rfl⟩)
            all_goals
              rw [HOB.out]
              go_wp2
              go_roundw
              all_goals first
                | exact ⟨q + 1, by omega, by go_num, by rw [HN2.out, HB.out]; exact ⟨HS8.out, HSB.out⟩⟩
                | exact hmea
                | (simp [intOf]; omega)
          · obtain rfl : q = 4 := by omega
            go_wp2
            go_roundw
            case rel => exact ⟨k + 1, by omega, by go_num, by rw [HN.out, ← HS4.out]; exact ⟨HR.out.1, HR.out.2⟩⟩
            case measure => simp [intOf]; omega
      · obtain rfl : k = ks.length := by omega
        have e : ks.take ks.length = ks := List.take_length
        rw [e] at HR
        have hlen := makeL_len ks m
        obtain ⟨L, hL⟩ : ∃ L, makeL ks m = L := ⟨_, rfl⟩
        have HLL := Lib.hid hL
        rw [hL] at HR hlen
        clear hL
        have hcv := conv_own (HR.out.1.own (by rw [hlen]; unfold maxLen; omega))
        rw [hlen] at hcv
        have HE := Lib.hid HR.out.2
        clear HR
        go_wp2
        go_ret2
        exact ⟨by rw [HLL.out]; rfl, HE.out⟩
  · have eS : makeS ks n = ⟨#[]⟩ := by unfold makeS; rw [if_neg hr]
    have eE : makeE n = 1 := by unfold makeE; rw [if_neg hr]
    rw [eS, eE]
    by_cases h2 : n < 1
    · go_enter Try.func50, Try.ntmps50
      go_wp2
      go_ret2
      exact ⟨rfl, Below.refl _ _⟩
    · have g2 : 8192 < n := by omega
      go_enter Try.func50, Try.ntmps50
      go_wp2
      go_ret2
      exact ⟨rfl, Below.refl _ _⟩

theorem bloomK : BloomK where
  hash := fun s w h => (hash_any s (by unfold maxLen; omega) w).mono fun e w' ⟨h1, h2⟩ => ⟨h1, by rw [h2]; exact Below.refl _ _⟩
  make := fun a c ks w h n hn => make_any a c ks w h.1 (fun i => by have := h.2 i; unfold maxLen; omega) n hn
  has := fun t s w ht hs => has_any t s (by unfold maxLen; omega) (by unfold maxLen; omega) w
end Go.Proofs.Ytlakemcbfeogkaa

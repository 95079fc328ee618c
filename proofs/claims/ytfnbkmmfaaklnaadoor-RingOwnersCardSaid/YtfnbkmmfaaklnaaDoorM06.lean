/- Layer 6, plain facts: the two hashes, bits of keys, filters. Nothing of the program is named here. -/
import GoSem.ClaimData
namespace Go.Proofs.YtfnbkmmfaaklnaaDoor
set_option linter.unusedVariables false

theorem xor32b {a b : Nat} (ha : a < 4294967296) (hb : b < 4294967296) : a ^^^ b < 4294967296 := Nat.xor_lt_two_pow (n := 32) ha hb
@[irreducible] def stepA (a : Nat) (c : UInt8) : Nat := (a ^^^ c.toNat) * 16777619 % 4294967296
@[irreducible] def stepB (b : Nat) (c : UInt8) : Nat := ((b + c.toNat) * 2246822507 % 4294967296) ^^^ ((b + c.toNat) * 2246822507 % 4294967296 / 8192)
@[irreducible] def startA : Nat := 2166136261
@[irreducible] def startB : Nat := 2538058380
theorem startA_eq : startA = 2166136261 := by unfold startA; rfl
theorem startB_eq : startB = 2538058380 := by unfold startB; rfl
def foldA (l : List UInt8) : Nat := l.foldl stepA startA
def foldB (l : List UInt8) : Nat := l.foldl stepB startB
@[irreducible] def hashA (s : ByteArray) : Nat := foldA s.data.toList
@[irreducible] def hashB (s : ByteArray) : Nat := foldB s.data.toList ||| 1
theorem stepA_lt (a : Nat) (c : UInt8) : stepA a c < 4294967296 := by unfold stepA; exact Nat.mod_lt _ (by omega)
theorem stepB_lt (b : Nat) (c : UInt8) : stepB b c < 4294967296 := by
  unfold stepB
  have h := Nat.mod_lt ((b + c.toNat) * 2246822507) (show 0 < 4294967296 by omega)
  exact xor32b h (by omega)
theorem foldA_snoc (l : List UInt8) (c : UInt8) : foldA (l ++ [c]) = stepA (foldA l) c := by unfold foldA; rw [List.foldl_append, List.foldl_cons, List.foldl_nil]
theorem foldB_snoc (l : List UInt8) (c : UInt8) : foldB (l ++ [c]) = stepB (foldB l) c := by unfold foldB; rw [List.foldl_append, List.foldl_cons, List.foldl_nil]
theorem foldA_lt (l : List UInt8) : foldA l < 4294967296 := by
  rcases List.eq_nil_or_concat l with rfl | ⟨q, c, rfl⟩
  · show startA < 4294967296
    rw [startA_eq]; omega
  · rw [List.concat_eq_append, foldA_snoc]; exact stepA_lt _ _
theorem foldB_lt (l : List UInt8) : foldB l < 4294967296 := by
  rcases List.eq_nil_or_concat l with rfl | ⟨q, c, rfl⟩
  · show startB < 4294967296
    rw [startB_eq]; omega
  · rw [List.concat_eq_append, foldB_snoc]; exact stepB_lt _ _
theorem foldA_next {l : List UInt8} {k : Nat} (h : k < l.length) : foldA (l.take (k + 1)) = stepA (foldA (l.take k)) l[k] := by
  rw [List.take_succ_eq_append_getElem h, foldA_snoc]
theorem foldB_next {l : List UInt8} {k : Nat} (h : k < l.length) : foldB (l.take (k + 1)) = stepB (foldB (l.take k)) l[k] := by
  rw [List.take_succ_eq_append_getElem h, foldB_snoc]
theorem hashA_lt (s : ByteArray) : hashA s < 4294967296 := by unfold hashA; exact foldA_lt _
theorem hashB_lt (s : ByteArray) : hashB s < 4294967296 := by unfold hashB; exact Nat.or_lt_two_pow (n := 32) (foldB_lt _) (by omega)

/-- The i-th bit of a key in a filter of n bytes. -/
@[irreducible] def bitK (s : ByteArray) (n i : Nat) : Nat := (hashA s + i * hashB s) % 4294967296 % (8 * n)
theorem bitK_lt (s : ByteArray) {n : Nat} (h : 0 < n) (i : Nat) : bitK s n i < 8 * n := by unfold bitK; exact Nat.mod_lt _ (by omega)

/-- A bit of a filter. -/
def hasBit (l : List UInt8) (k : Nat) : Bool := (l.getD (k / 8) 0).toNat.testBit (k % 8)
def setBit (l : List UInt8) (k : Nat) : List UInt8 := l.set (k / 8) (l.getD (k / 8) 0 ||| (1 <<< UInt8.ofNat (k % 8)))
theorem setBit_len (l : List UInt8) (k : Nat) : (setBit l k).length = l.length := by simp [setBit]
theorem one_shl (r : Nat) (h : r < 8) : ((1 : UInt8) <<< UInt8.ofNat r).toNat = 2 ^ r := by
  match r, h with
  | 0, _ | 1, _ | 2, _ | 3, _ | 4, _ | 5, _ | 6, _ | 7, _ => decide
theorem hasBit_set {l : List UInt8} {k : Nat} (h : k / 8 < l.length) (j : Nat) : hasBit (setBit l k) j = (hasBit l j || decide (j = k)) := by
  unfold hasBit setBit
  by_cases e : j / 8 = k / 8
  · rw [e]
    have e1 : (l.set (k / 8) (l.getD (k / 8) 0 ||| (1 <<< UInt8.ofNat (k % 8)))).getD (k / 8) 0 = (l.getD (k / 8) 0 ||| (1 <<< UInt8.ofNat (k % 8))) := by
      simp [List.getD, List.getElem?_set_self h]
    rw [e1, UInt8.toNat_or, Nat.testBit_or, one_shl _ (Nat.mod_lt _ (by decide)), Nat.testBit_two_pow]
    congr 1
    have : (k % 8 = j % 8) ↔ (j = k) := by omega
    simp [this]
  · have e1 : (l.set (k / 8) (l.getD (k / 8) 0 ||| (1 <<< UInt8.ofNat (k % 8)))).getD (j / 8) 0 = l.getD (j / 8) 0 := by
      simp [List.getD, List.getElem?_set_ne (fun c => e c.symm)]
    have ne : j ≠ k := fun c => e (by rw [c])
    rw [e1]
    simp [ne]
/-- The first i bits of a key. -/
def setsK (l : List UInt8) (s : ByteArray) (i : Nat) : List UInt8 := (List.range i).foldl (fun l j => setBit l (bitK s l.length j)) l
theorem setsK_len (l : List UInt8) (s : ByteArray) (i : Nat) : (setsK l s i).length = l.length := by
  unfold setsK
  induction i with
  | zero => rfl
  | succ i ih => rw [List.range_succ, List.foldl_append]; simp only [List.foldl_cons, List.foldl_nil, setBit_len]; exact ih
theorem setsK_next (l : List UInt8) (s : ByteArray) (i : Nat) : setsK l s (i + 1) = setBit (setsK l s i) (bitK s l.length i) := by
  have : setsK l s (i + 1) = setBit (setsK l s i) (bitK s (setsK l s i).length i) := by
    unfold setsK
    rw [List.range_succ, List.foldl_append, List.foldl_cons, List.foldl_nil]
  rw [this, setsK_len]
theorem setsK_has {l : List UInt8} (h : 0 < l.length) (s : ByteArray) (i j : Nat) : hasBit (setsK l s i) j = true ↔ hasBit l j = true ∨ ∃ q, q < i ∧ bitK s l.length q = j := by
  induction i with
  | zero => simp [setsK]
  | succ i ih =>
    have hb := bitK_lt s h i
    rw [setsK_next, hasBit_set (by rw [setsK_len]; omega), Bool.or_eq_true, ih, decide_eq_true_eq]
    constructor
    · rintro ((h1 | ⟨q, hq, e⟩) | e)
      · exact .inl h1
      · exact .inr ⟨q, by omega, e⟩
      · exact .inr ⟨i, by omega, e.symm⟩
    · rintro (h1 | ⟨q, hq, e⟩)
      · exact .inl (.inl h1)
      · by_cases c : q = i
        · subst c; exact .inr e.symm
        · exact .inl (.inr ⟨q, by omega, e⟩)
def setK (l : List UInt8) (s : ByteArray) : List UInt8 := setsK l s 4
theorem setK_len (l : List UInt8) (s : ByteArray) : (setK l s).length = l.length := setsK_len l s 4
/-- The filter of these keys. -/
@[irreducible] def makeL (ks : List ByteArray) (n : Nat) : List UInt8 := ks.foldl setK (List.replicate n 0)
theorem makeL_snoc (ks : List ByteArray) (s : ByteArray) (n : Nat) : makeL (ks ++ [s]) n = setK (makeL ks n) s := by simp [makeL]
theorem makeL_next {ks : List ByteArray} {k : Nat} (h : k < ks.length) (n : Nat) : makeL (ks.take (k + 1)) n = setK (makeL (ks.take k) n) ks[k] := by
  rw [List.take_succ_eq_append_getElem h, makeL_snoc]
theorem folds_len (ks : List ByteArray) : ∀ l : List UInt8, (ks.foldl setK l).length = l.length := by
  induction ks with
  | nil => intro l; rfl
  | cons s r ih => intro l; rw [List.foldl_cons, ih, setK_len]
theorem makeL_len (ks : List ByteArray) (n : Nat) : (makeL ks n).length = n := by unfold makeL; rw [folds_len]; simp
theorem folds_has (j : Nat) (ks : List ByteArray) : ∀ l : List UInt8, 0 < l.length → (hasBit (ks.foldl setK l) j = true ↔ hasBit l j = true ∨ ∃ s ∈ ks, ∃ q, q < 4 ∧ bitK s l.length q = j) := by
  induction ks with
  | nil => intro l _; simp
  | cons s r ih =>
    intro l h
    rw [List.foldl_cons, ih _ (by rw [setK_len]; exact h), setK_len]
    unfold setK
    rw [setsK_has h]
    simp [or_assoc]
theorem zeros_has (n j : Nat) : hasBit (List.replicate n 0) j = false := by
  unfold hasBit
  have : (List.replicate n (0 : UInt8)).getD (j / 8) 0 = 0 := by
    by_cases h : j / 8 < n
    · simp [List.getD, h]
    · simp [List.getD, h]
  rw [this]
  simp
theorem makeL_has {n : Nat} (h : 0 < n) (ks : List ByteArray) (j : Nat) : hasBit (makeL ks n) j = true ↔ ∃ s ∈ ks, ∃ q, q < 4 ∧ bitK s n q = j := by
  unfold makeL
  rw [folds_has j ks _ (by simpa using h), zeros_has]
  simp
/-- Has a filter the first i bits of a key? -/
@[irreducible] def hasTo (l : List UInt8) (s : ByteArray) (i : Nat) : Bool := (List.range i).all fun q => hasBit l (bitK s l.length q)
theorem hasTo_next (l : List UInt8) (s : ByteArray) (i : Nat) : hasTo l s (i + 1) = (hasTo l s i && hasBit l (bitK s l.length i)) := by
  unfold hasTo
  rw [List.range_succ, List.all_append]
  simp
theorem hasTo_iff (l : List UInt8) (s : ByteArray) (i : Nat) : hasTo l s i = true ↔ ∀ q, q < i → hasBit l (bitK s l.length q) = true := by
  unfold hasTo
  simp
theorem hasTo_not {l : List UInt8} {s : ByteArray} {i j : Nat} (h : hasBit l (bitK s l.length i) = false) (hi : i < j) : hasTo l s j = false := by
  cases e : hasTo l s j with
  | false => rfl
  | true => rw [(hasTo_iff l s j).1 e i hi] at h; cases h
/-- Has a filter a key? -/
@[irreducible] def hasK6 (l : List UInt8) (s : ByteArray) : Bool := decide (1 ≤ l.length ∧ l.length ≤ 8192) && hasTo l s 4
theorem makeL_mem {ks : List ByteArray} {s : ByteArray} (hs : s ∈ ks) {n : Nat} (h1 : 1 ≤ n) (h2 : n ≤ 8192) : hasK6 (makeL ks n) s = true := by
  unfold hasK6
  rw [makeL_len, Bool.and_eq_true, decide_eq_true_eq, hasTo_iff, makeL_len]
  exact ⟨⟨h1, h2⟩, fun q hq => (makeL_has (by omega) ks _).2 ⟨s, hs, q, hq, rfl⟩⟩
theorem makeL_more {ks ms : List ByteArray} (hsub : ∀ s ∈ ks, s ∈ ms) {n : Nat} {s : ByteArray} (h : hasK6 (makeL ks n) s = true) : hasK6 (makeL ms n) s = true := by
  unfold hasK6 at h ⊢
  rw [makeL_len, Bool.and_eq_true, decide_eq_true_eq, hasTo_iff, makeL_len] at h ⊢
  refine ⟨h.1, fun q hq => ?_⟩
  obtain ⟨t, ht, r⟩ := (makeL_has (by omega) ks _).1 (h.2 q hq)
  exact (makeL_has (by omega) ms _).2 ⟨t, hsub t ht, r⟩
theorem byte_ext {a b : UInt8} (h : ∀ r, r < 8 → a.toNat.testBit r = b.toNat.testBit r) : a = b := by
  apply UInt8.toNat_inj.1
  refine Nat.eq_of_testBit_eq fun r => ?_
  by_cases hr : r < 8
  · exact h r hr
  · have e : ∀ x : UInt8, x.toNat.testBit r = false := fun x => by
      have h1 := UInt8.toNat_lt x
      have h2 : 2 ^ 8 ≤ 2 ^ r := Nat.pow_le_pow_right (by decide) (by omega)
      exact Nat.testBit_lt_two_pow (by omega)
    rw [e, e]
theorem makeL_joins {n : Nat} (h : 0 < n) (a b : List ByteArray) {i : Nat} (hi : i < n) : (makeL a n).getD i 0 ||| (makeL b n).getD i 0 = (makeL (a ++ b) n).getD i 0 := by
  refine byte_ext fun r hr => ?_
  have key : ∀ ks : List ByteArray, ((makeL ks n).getD i 0).toNat.testBit r = true ↔ ∃ s ∈ ks, ∃ q, q < 4 ∧ bitK s n q = i * 8 + r := fun ks => by
    have := makeL_has h ks (i * 8 + r)
    unfold hasBit at this
    rwa [show (i * 8 + r) / 8 = i by omega, show (i * 8 + r) % 8 = r by omega] at this
  rw [UInt8.toNat_or, Nat.testBit_or, Bool.eq_iff_iff, Bool.or_eq_true, key, key, key]
  constructor
  · rintro (⟨s, hs, q⟩ | ⟨s, hs, q⟩)
    · exact ⟨s, List.mem_append_left _ hs, q⟩
    · exact ⟨s, List.mem_append_right _ hs, q⟩
  · rintro ⟨s, hs, q⟩
    rcases List.mem_append.1 hs with hs | hs
    · exact .inl ⟨s, hs, q⟩
    · exact .inr ⟨s, hs, q⟩
end Go.Proofs.YtfnbkmmfaaklnaaDoor

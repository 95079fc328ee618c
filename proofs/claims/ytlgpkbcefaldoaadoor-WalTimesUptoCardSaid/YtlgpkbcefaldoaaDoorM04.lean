/- Layer 4, plain facts: segments' names and numbers. -/
import Derived.Test.YtlgpkbcefaldoaaDoorM02
import Derived.Test.YtlgpkbcefaldoaaDoorM03
import Derived.Lib.ItoaNum
import Derived.Lib.Repeat
import Derived.Lib.Strings
namespace Go.Proofs.YtlgpkbcefaldoaaDoor
set_option linter.unusedVariables false

/-- The k lowest decimal digits of n, the highest ahead. -/
def decN : Nat → Nat → List UInt8
  | 0, _ => []
  | k + 1, n => decN k (n / 10) ++ [UInt8.ofNat (48 + n % 10)]
def isDec (c : UInt8) : Bool := decide (48 ≤ c.toNat ∧ c.toNat ≤ 57)
def valN (l : List UInt8) : Nat := l.foldl (fun a c => 10 * a + (c.toNat - 48)) 0

theorem decN_len : ∀ k n, (decN k n).length = k
  | 0, _ => rfl
  | k + 1, n => by rw [decN, List.length_append, decN_len k]; rfl
theorem decC (n : Nat) : (UInt8.ofNat (48 + n % 10)).toNat = 48 + n % 10 := by
  rw [UInt8.toNat_ofNat']
  omega
theorem valN_snoc (l : List UInt8) (c : UInt8) : valN (l ++ [c]) = 10 * valN l + (c.toNat - 48) := by
  unfold valN
  rw [List.foldl_append]; rfl
theorem valN_dec : ∀ k n, n < 10 ^ k → valN (decN k n) = n
  | 0, n, h => by simp at h; subst h; rfl
  | k + 1, n, h => by
    rw [Nat.pow_succ] at h
    rw [decN, valN_snoc, valN_dec k (n / 10) (by omega), decC]
    omega
theorem decN_all : ∀ k n, (decN k n).all isDec = true
  | 0, _ => rfl
  | k + 1, n => by
    rw [decN, List.all_append, decN_all k]
    simp only [List.all_cons, List.all_nil, Bool.and_true, Bool.true_and, isDec, decC]
    exact decide_eq_true (by omega)
theorem dec_valN : ∀ (k : Nat) (l : List UInt8), l.length = k → l.all isDec = true → decN k (valN l) = l ∧ valN l < 10 ^ k
  | 0, l, h, _ => by
    have := List.length_eq_zero_iff.1 h
    subst this
    exact ⟨rfl, by decide⟩
  | k + 1, l, h, ha => by
    obtain ⟨m, c, rfl⟩ : ∃ m c, l = m ++ [c] := by
      have hne : l ≠ [] := by rintro rfl; simp at h
      exact ⟨l.dropLast, l.getLast hne, (List.dropLast_concat_getLast hne).symm⟩
    rw [List.length_append] at h
    rw [List.all_append] at ha
    simp only [List.all_cons, List.all_nil, Bool.and_true, Bool.and_eq_true, isDec, decide_eq_true_eq] at ha
    obtain ⟨ha1, hc⟩ := ha
    obtain ⟨i1, i2⟩ := dec_valN k m (by simpa using h) ha1
    rw [valN_snoc, decN]
    have e1 : (10 * valN m + (c.toNat - 48)) / 10 = valN m := by omega
    have e2 : (10 * valN m + (c.toNat - 48)) % 10 = c.toNat - 48 := by omega
    rw [e1, e2, i1, show 48 + (c.toNat - 48) = c.toNat by omega, Nat.pow_succ]
    refine ⟨by simp, by omega⟩
theorem decN_inj {k n m : Nat} (hn : n < 10 ^ k) (hm : m < 10 ^ k) (h : decN k n = decN k m) : n = m := by
  rw [← valN_dec k n hn, h, valN_dec k m hm]

theorem snoc_lt (c d : UInt8) : ∀ l m : List UInt8, l.length = m.length → (bytesBefore (l ++ [c]) (m ++ [d]) = true ↔ bytesBefore l m = true ∨ (l = m ∧ c < d))
  | [], [], _ => by simp [bytesBefore]
  | [], _ :: _, h => by simp at h
  | _ :: _, [], h => by simp at h
  | a :: l, b :: m, h => by
    have ih := snoc_lt c d l m (by simpa using h)
    simp only [List.cons_append, bytesBefore, Bool.or_eq_true, Bool.and_eq_true, decide_eq_true_eq, beq_iff_eq, ih, List.cons.injEq]
    constructor
    · rintro (h1 | ⟨rfl, h1 | ⟨rfl, h1⟩⟩)
      · exact .inl (.inl h1)
      · exact .inl (.inr ⟨rfl, h1⟩)
      · exact .inr ⟨⟨rfl, rfl⟩, h1⟩
    · rintro ((h1 | ⟨rfl, h1⟩) | ⟨⟨rfl, rfl⟩, h1⟩)
      · exact .inl h1
      · exact .inr ⟨rfl, .inl h1⟩
      · exact .inr ⟨rfl, .inr ⟨rfl, h1⟩⟩
theorem decN_lt : ∀ k n m, n < 10 ^ k → m < 10 ^ k → (bytesBefore (decN k n) (decN k m) = true ↔ n < m)
  | 0, n, m, hn, hm => by simp at hn hm; subst hn; subst hm; simp [decN, bytesBefore]
  | k + 1, n, m, hn, hm => by
    rw [Nat.pow_succ] at hn hm
    rw [decN, decN, snoc_lt _ _ _ _ (by rw [decN_len, decN_len]), decN_lt k (n / 10) (m / 10) (by omega) (by omega), UInt8.lt_iff_toNat_lt, decC, decC]
    constructor
    · rintro (h | ⟨h, h2⟩)
      · omega
      · have := decN_inj (by omega) (by omega) h
        omega
    · intro h
      by_cases h1 : n / 10 < m / 10
      · exact .inl h1
      · have h2 : n / 10 = m / 10 := by omega
        exact .inr ⟨by rw [h2], by omega⟩

/-- The eight digits, as Itoa and Repeat make them. -/
theorem decN_zero : ∀ k, decN k 0 = Lib.repeatL [48] k
  | 0 => rfl
  | k + 1 => by
    rw [decN, Nat.zero_div, decN_zero k]
    have : ∀ k, Lib.repeatL [(48 : UInt8)] k ++ [48] = 48 :: Lib.repeatL [48] k := by
      intro k
      induction k with
      | zero => rfl
      | succ k ih => rw [Lib.repeatL, List.append_assoc, ih]; rfl
    exact this k
theorem nDigits_le : ∀ k n, 1 ≤ k → n < 10 ^ k → Lib.nDigits n ≤ k := by
  intro k
  induction k with
  | zero => intro n h; omega
  | succ k ih =>
    intro n _ h
    by_cases h10 : n < 10
    · rw [Lib.nDigits_small h10]; omega
    · rw [Lib.nDigits_big h10]
      rw [Nat.pow_succ] at h
      have hk : 1 ≤ k := by
        rcases Nat.eq_zero_or_pos k with rfl | h'
        · simp at h; omega
        · exact h'
      have := ih (n / 10) hk (by omega)
      omega
theorem decN_pad : ∀ k n, 1 ≤ k → n < 10 ^ k → Lib.repeatL [48] (k - (Lib.decDigits n).length) ++ Lib.decDigits n = decN k n := by
  intro k
  induction k with
  | zero => intro n h; omega
  | succ k ih =>
    intro n _ h
    by_cases h10 : n < 10
    · rw [Lib.decDigits_one h10, decN, Nat.div_eq_of_lt h10, Nat.mod_eq_of_lt h10, decN_zero]; rfl
    · rw [Nat.pow_succ] at h
      have hk : 1 ≤ k := by
        rcases Nat.eq_zero_or_pos k with rfl | h'
        · simp at h; omega
        · exact h'
      rw [Lib.decDigits, dif_neg h10, decN, ← ih (n / 10) hk (by omega), List.length_append]
      rw [show k + 1 - ((Lib.decDigits (n / 10)).length + [UInt8.ofNat (48 + n % 10)].length) = k - (Lib.decDigits (n / 10)).length by simp, List.append_assoc]

/-! ### segments -/
def segName (nm : Key) (n : Nat) : Key := nm ++ decN 8 n
/-- The number of the segment that a file is; 0: it is none. -/
def segNum (nm f : Key) : Nat := if Lib.hasPrefix f nm = true ∧ (f.drop nm.length).length = 8 ∧ (f.drop nm.length).all isDec = true then valN (f.drop nm.length) else 0

theorem segName_len (nm : Key) (n : Nat) : (segName nm n).length = nm.length + 8 := by rw [segName, List.length_append, decN_len]
theorem segNum_name (nm : Key) {n : Nat} (h : n < 100000000) : segNum nm (segName nm n) = n := by
  unfold segNum segName
  rw [List.drop_left, decN_len, if_pos ⟨by unfold Lib.hasPrefix; rw [List.isPrefixOf_iff_prefix]; exact List.prefix_append _ _, rfl, decN_all 8 n⟩]
  exact valN_dec 8 n (by simpa using h)
theorem segNum_inv {nm f : Key} (h : segNum nm f ≠ 0) : f = segName nm (segNum nm f) ∧ segNum nm f < 100000000 := by
  unfold segNum at h ⊢
  split at h
  · rename_i hc
    rw [if_pos hc]
    obtain ⟨h1, h2, h3⟩ := hc
    obtain ⟨i1, i2⟩ := dec_valN 8 _ h2 h3
    unfold Lib.hasPrefix at h1
    rw [List.isPrefixOf_iff_prefix] at h1
    obtain ⟨t, rfl⟩ := h1
    rw [List.drop_left] at i1 i2 ⊢
    exact ⟨by unfold segName; rw [i1], by simpa using i2⟩
  · exact absurd rfl h
theorem segName_inj {nm : Key} {a b : Nat} (ha : a < 100000000) (hb : b < 100000000) (h : segName nm a = segName nm b) : a = b := by
  rw [← segNum_name nm ha, h, segNum_name nm hb]
theorem before_app (p : Key) (a b : Key) : bytesBefore (p ++ a) (p ++ b) = bytesBefore a b := by
  induction p with
  | nil => rfl
  | cons c r ih => simp [bytesBefore, ih]
theorem segName_lt (nm : Key) {a b : Nat} (ha : a < 100000000) (hb : b < 100000000) : bytesBefore (segName nm a) (segName nm b) = decide (a < b) := by
  unfold segName
  rw [before_app, Bool.eq_iff_iff, decN_lt 8 a b (by simpa using ha) (by simpa using hb), decide_eq_true_eq]
theorem segName_ok {nm : Key} (n : Nat) (h : nm.length ≤ 8) : nameOK (segName nm n) = true := by
  unfold nameOK
  rw [segName_len]
  exact decide_eq_true (by omega)

/-- The segments' numbers, in the files' order. -/
def segsOf (nm : Key) (l : List (Key × FileS)) : List Nat := (l.map fun x => segNum nm x.1).filter fun n => decide (1 ≤ n)
def curOf (nm : Key) (l : List (Key × FileS)) : Nat := (segsOf nm l).getLastD 0 + 1
/-- The records that stand in the segments. -/
def recsL (nm : Key) (l : List (Key × FileS)) : List (List UInt8) := l.flatMap fun x => if segNum nm x.1 = 0 then [] else (scanL x.2.bytes).1
/-- The segments alone. -/
def segP (nm : Key) (l : List (Key × FileS)) : List (Key × FileS) := l.filter fun x => !(segNum nm x.1 == 0)

theorem segsOf_segP (nm : Key) (l : List (Key × FileS)) : segsOf nm l = (segP nm l).map fun x => segNum nm x.1 := by
  induction l with
  | nil => rfl
  | cons x r ih =>
    unfold segsOf segP at *
    rw [List.map_cons, List.filter_cons, List.filter_cons]
    by_cases h : segNum nm x.1 = 0
    · rw [if_neg (by simp [h]), if_neg (by simp [h]), ih]
    · rw [if_pos (by simp; omega), if_pos (by simp [h]), ih, List.map_cons]
theorem recsL_segP (nm : Key) (l : List (Key × FileS)) : recsL nm l = (segP nm l).flatMap fun x => (scanL x.2.bytes).1 := by
  induction l with
  | nil => rfl
  | cons x r ih =>
    unfold recsL segP at *
    rw [List.flatMap_cons, List.filter_cons, ih]
    by_cases h : segNum nm x.1 = 0
    · rw [if_pos h, if_neg (by simp [h])]; rfl
    · rw [if_neg h, if_pos (by simp [h]), List.flatMap_cons]
theorem segP_ins {nm : Key} {k : Key} {f : FileS} (h : segNum nm k = 0) (l : List (Key × FileS)) : segP nm (insK (k, f) l) = segP nm l := by
  induction l with
  | nil => simp [insK, segP, h]
  | cons x r ih =>
    unfold insK
    split
    · unfold segP
      rw [List.filter_cons, if_neg (by simp [h])]
    · unfold segP at *
      rw [List.filter_cons, List.filter_cons, ih]
theorem segP_upd {nm : Key} {k : Key} {f : FileS} (h : segNum nm k = 0) (l : List (Key × FileS)) : segP nm (updK k f l) = segP nm l := by
  induction l with
  | nil => rfl
  | cons x r ih =>
    unfold updK
    split
    · rename_i hx
      unfold segP
      rw [List.filter_cons, List.filter_cons, if_neg (by simp [h]), if_neg (by rw [hx]; simp [h])]
    · unfold segP at *
      rw [List.filter_cons, List.filter_cons, ih]
theorem segP_drop (nm k : Key) (l : List (Key × FileS)) : segP nm (dropK k l) = dropK k (segP nm l) := by
  unfold segP dropK
  rw [List.filter_filter, List.filter_filter]
  congr 1
  funext x
  rw [Bool.and_comm]

/-- Files that are the segments from number i on. -/
def segsL (nm : Key) : Nat → List FileS → List (Key × FileS)
  | _, [] => []
  | i, f :: r => (segName nm i, f) :: segsL nm (i + 1) r

theorem segsL_len (nm : Key) : ∀ i fs, (segsL nm i fs).length = fs.length
  | _, [] => rfl
  | i, _ :: r => by rw [segsL, List.length_cons, segsL_len nm (i + 1) r, List.length_cons]
theorem segsL_append (nm : Key) : ∀ i fs gs, segsL nm i (fs ++ gs) = segsL nm i fs ++ segsL nm (i + fs.length) gs
  | i, [], gs => by simp [segsL]
  | i, f :: r, gs => by
    rw [List.cons_append, segsL, segsL, segsL_append nm (i + 1) r gs, List.cons_append, List.length_cons, show i + 1 + r.length = i + (r.length + 1) by omega]
theorem segP_segsL {nm : Key} : ∀ i fs, 1 ≤ i → i + fs.length ≤ 100000000 → segP nm (segsL nm i fs) = segsL nm i fs
  | _, [], _, _ => rfl
  | i, f :: r, h1, h => by
    rw [List.length_cons] at h
    have ih := segP_segsL (nm := nm) (i + 1) r (by omega) (by omega)
    unfold segP at *
    rw [segsL, List.filter_cons, if_pos (by simp only; rw [segNum_name nm (by omega)]; simp; omega), ih]
theorem segsOf_segsL {nm : Key} : ∀ i fs, 1 ≤ i → i + fs.length ≤ 100000000 → segsOf nm (segsL nm i fs) = List.range' i fs.length
  | _, [], _, _ => rfl
  | i, f :: r, h1, h => by
    rw [List.length_cons] at h
    have ih := segsOf_segsL (nm := nm) (i + 1) r (by omega) (by omega)
    rw [segsOf_segP] at ih ⊢
    rw [segP_segsL _ _ (by omega) (by omega)] at ih
    rw [segP_segsL _ _ h1 (by rw [List.length_cons]; omega), segsL, List.map_cons, ih, List.length_cons, List.range'_succ]
    simp only
    rw [segNum_name nm (by omega)]
theorem curOf_segsL {nm : Key} (fs : List FileS) (h : 1 + fs.length ≤ 100000000) : curOf nm (segsL nm 1 fs) = fs.length + 1 := by
  unfold curOf
  rw [segsOf_segsL 1 fs (by omega) h]
  cases hn : fs.length with
  | zero => rfl
  | succ n => rw [List.range'_concat, List.getLastD_concat]; omega
theorem recsL_segsL {nm : Key} : ∀ i fs, 1 ≤ i → i + fs.length ≤ 100000000 → recsL nm (segsL nm i fs) = fs.flatMap fun f => (scanL f.bytes).1
  | _, [], _, _ => rfl
  | i, f :: r, h1, h => by
    rw [List.length_cons] at h
    have ih := recsL_segsL (nm := nm) (i + 1) r (by omega) (by omega)
    unfold recsL at *
    rw [segsL, List.flatMap_cons, if_neg (by simp only; rw [segNum_name nm (by omega)]; omega), ih, List.flatMap_cons]
theorem findK_segsL_none {nm : Key} : ∀ i fs n, (n < i ∨ i + fs.length ≤ n) → n < 100000000 → i + fs.length ≤ 100000000 → findK (segName nm n) (segsL nm i fs) = none
  | _, [], _, _, _, _ => rfl
  | i, f :: r, n, h, hn, hl => by
    rw [List.length_cons] at h hl
    rw [segsL, findK_cons, if_neg (fun e => by have := segName_inj (nm := nm) (by omega) hn e; omega)]
    exact findK_segsL_none (i + 1) r n (by omega) hn (by omega)
theorem findK_segsL {nm : Key} : ∀ i fs n (h1 : i ≤ n) (h2 : n - i < fs.length), i + fs.length ≤ 100000000 → findK (segName nm n) (segsL nm i fs) = some fs[n - i]
  | _, [], _, _, h, _ => by simp at h
  | i, f :: r, n, h1, h2, hl => by
    rw [List.length_cons] at h2 hl
    rw [segsL, findK_cons]
    by_cases e : i = n
    · subst e
      rw [if_pos rfl]
      simp
    · rw [if_neg (fun e' => e (segName_inj (nm := nm) (by omega) (by omega) e')), findK_segsL (i + 1) r n (by omega) (by omega) (by omega)]
      congr 1
      have : n - i = (n - (i + 1)) + 1 := by omega
      simp only [this, List.getElem_cons_succ]
/-- A new segment goes behind all others. -/
theorem insK_segsL {nm : Key} {g : FileS} : ∀ i fs, i + fs.length < 100000000 → insK (segName nm (i + fs.length), g) (segsL nm i fs) = segsL nm i (fs ++ [g])
  | i, [], _ => rfl
  | i, f :: r, h => by
    rw [List.length_cons] at h
    have ih := insK_segsL (nm := nm) (g := g) (i + 1) r (by omega)
    rw [segsL, insK, if_neg (by rw [segName_lt nm (by rw [List.length_cons]; omega) (by omega), List.length_cons]; simp), List.cons_append, segsL, List.length_cons, show i + (r.length + 1) = i + 1 + r.length by omega, ih]
theorem updK_segsL {nm : Key} {g : FileS} : ∀ i fs n, i ≤ n → n - i < fs.length → i + fs.length ≤ 100000000 → updK (segName nm n) g (segsL nm i fs) = segsL nm i (fs.set (n - i) g)
  | _, [], _, _, h, _ => by simp at h
  | i, f :: r, n, h1, h2, hl => by
    rw [List.length_cons] at h2 hl
    rw [segsL, updK]
    by_cases e : i = n
    · subst e
      rw [if_pos rfl, Nat.sub_self, List.set_cons_zero, segsL]
    · rw [if_neg (fun e' => e (segName_inj (nm := nm) (by omega) (by omega) e')), updK_segsL (i + 1) r n (by omega) (by omega) (by omega), show n - i = (n - (i + 1)) + 1 by omega, List.set_cons_succ, segsL]
theorem dropK_segsL {nm : Key} (i : Nat) (f : FileS) (fs : List FileS) (h : i + (fs.length + 1) ≤ 100000000) : dropK (segName nm i) (segsL nm i (f :: fs)) = segsL nm (i + 1) fs := by
  rw [segsL]
  have : dropK (segName nm i) ((segName nm i, f) :: segsL nm (i + 1) fs) = dropK (segName nm i) (segsL nm (i + 1) fs) := by simp [dropK]
  rw [this, dropK_none (findK_segsL_none _ _ _ (by omega) (by omega) (by omega))]
end Go.Proofs.YtlgpkbcefaldoaaDoor

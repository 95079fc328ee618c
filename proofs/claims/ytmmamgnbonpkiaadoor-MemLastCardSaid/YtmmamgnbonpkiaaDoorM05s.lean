/- Layer 5, plain facts: what is in a table; puts in unlike orders; the first of each key; places that are turned. -/
import Derived.Test.YtmmamgnbonpkiaaDoorK05r
namespace Go.Proofs.YtmmamgnbonpkiaaDoor
open Go.RowKit
set_option linter.unusedVariables false

theorem place_key {l : List PairS} (h : RisingP l) {i : Nat} (hi : i < l.length) : placeP l[i].key l = i :=
  placeP_of (Nat.le_of_lt hi) (fun j hj hji => List.pairwise_iff_getElem.1 h j i hj hi hji) (fun _ => befB_irrefl _)
theorem getP_at {l : List PairS} (h : RisingP l) {i : Nat} (hi : i < l.length) : getP l[i].key l = some l[i] := by
  unfold getP
  rw [thereP_of hi (place_key h hi), place_key h hi]
  simp [hi]
theorem getP_iff {l : List PairS} (h : RisingP l) (k : ByteArray) (y : PairS) : getP k l = some y ↔ y ∈ l ∧ y.key = k := by
  constructor
  · intro hg
    unfold getP at hg
    split at hg
    · rename_i ht
      obtain ⟨hl, hk⟩ := thereP_lt ht
      rw [List.getElem?_eq_getElem hl] at hg
      injection hg with hg
      subst hg
      exact ⟨List.getElem_mem hl, hk⟩
    · cases hg
  · rintro ⟨hm, rfl⟩
    obtain ⟨i, hi, rfl⟩ := List.mem_iff_getElem.1 hm
    exact getP_at h hi
theorem rising_one {l : List PairS} (h : RisingP l) {x y : PairS} (hx : x ∈ l) (hy : y ∈ l) (e : x.key = y.key) : x = y := by
  have h1 := (getP_iff h x.key x).2 ⟨hx, rfl⟩
  rw [e, (getP_iff h y.key y).2 ⟨hy, rfl⟩] at h1
  injection h1 with h1
  exact h1.symm
theorem mem_putP_iff {l : List PairS} (h : RisingP l) (x y : PairS) : y ∈ putP x l ↔ y = x ∨ (y ∈ l ∧ y.key ≠ x.key) := by
  have hx : x ∈ putP x l := by unfold putP; exact List.mem_append_right _ (List.mem_cons_self ..)
  constructor
  · intro hy
    by_cases e : y.key = x.key
    · exact .inl (rising_one (putP_rising h) hy hx e)
    · rcases mem_putP hy with rfl | hm
      · exact .inl rfl
      · exact .inr ⟨hm, e⟩
  · rintro (rfl | ⟨hm, e⟩)
    · exact hx
    · obtain ⟨i, hi, rfl⟩ := List.mem_iff_getElem.1 hm
      unfold putP
      by_cases hlt : i < placeP x.key l
      · refine List.mem_append_left _ (List.mem_iff_getElem.2 ⟨i, by rw [List.length_take]; omega, ?_⟩)
        rw [List.getElem_take]
      · refine List.mem_append_right _ (List.mem_cons_of_mem _ ?_)
        have hd : placeP x.key l + (if thereP x.key l then 1 else 0) ≤ i := by
          split
          · rename_i ht
            obtain ⟨hl, hk⟩ := thereP_lt ht
            have : i ≠ placeP x.key l := fun c => e (by subst c; exact hk)
            omega
          · omega
        refine List.mem_iff_getElem.2 ⟨i - (placeP x.key l + (if thereP x.key l then 1 else 0)), by rw [List.length_drop]; omega, ?_⟩
        rw [List.getElem_drop]
        congr 1
        omega
theorem getP_putP {l : List PairS} (h : RisingP l) (x : PairS) (k : ByteArray) : getP k (putP x l) = if k = x.key then some x else getP k l := by
  have hr := putP_rising (p := x) h
  split
  · rename_i e
    exact (getP_iff hr k x).2 ⟨(mem_putP_iff h x x).2 (.inl rfl), e.symm⟩
  · rename_i e
    cases hg : getP k l with
    | some y =>
      obtain ⟨h1, h2⟩ := (getP_iff h k y).1 hg
      exact (getP_iff hr k y).2 ⟨(mem_putP_iff h x y).2 (.inr ⟨h1, fun c => e (by rw [← h2, c])⟩), h2⟩
    | none =>
      cases hp : getP k (putP x l) with
      | none => rfl
      | some y =>
        obtain ⟨h1, h2⟩ := (getP_iff hr k y).1 hp
        rcases (mem_putP_iff h x y).1 h1 with rfl | ⟨h3, h4⟩
        · exact absurd h2.symm e
        · rw [(getP_iff h k y).2 ⟨h3, h2⟩] at hg; cases hg
theorem putP_length (x : PairS) (l : List PairS) : (putP x l).length = if (getP x.key l).isSome then l.length else l.length + 1 := by
  have hle := placeP_le x.key l
  unfold putP getP
  by_cases ht : thereP x.key l = true
  · obtain ⟨hl, _⟩ := thereP_lt ht
    rw [if_pos ht, if_pos ht, List.getElem?_eq_getElem hl]
    simp
    omega
  · rw [if_neg ht, if_neg ht]
    simp
    omega

/-- Rising lists with the same members are the same. -/
theorem rising_ext : ∀ {a b : List PairS}, RisingP a → RisingP b → (∀ x, x ∈ a ↔ x ∈ b) → a = b
  | [], [], _, _, _ => rfl
  | [], y :: s, _, _, h => absurd ((h y).2 (List.mem_cons_self ..)) (by simp)
  | x :: r, [], _, _, h => absurd ((h x).1 (List.mem_cons_self ..)) (by simp)
  | x :: r, y :: s, ha, hb, h => by
    obtain ⟨a1, a2⟩ := List.pairwise_cons.1 ha
    obtain ⟨b1, b2⟩ := List.pairwise_cons.1 hb
    have e : x = y := by
      rcases List.mem_cons.1 ((h x).1 (List.mem_cons_self ..)) with e | hx
      · exact e
      · rcases List.mem_cons.1 ((h y).2 (List.mem_cons_self ..)) with e | hy
        · exact e.symm
        · have h1 := b1 x hx
          have h2 := a1 y hy
          rw [befB_asymm h1] at h2
          cases h2
    subst e
    rw [rising_ext a2 b2 (fun z => ?_)]
    have nr : ∀ {l : List PairS}, (∀ z ∈ l, befB x.key z.key = true) → x ∉ l := fun hl hx => by have := hl x hx; rw [befB_irrefl] at this; cases this
    constructor
    · intro hz
      rcases List.mem_cons.1 ((h z).1 (List.mem_cons_of_mem _ hz)) with rfl | hz'
      · exact absurd hz (nr a1)
      · exact hz'
    · intro hz
      rcases List.mem_cons.1 ((h z).2 (List.mem_cons_of_mem _ hz)) with rfl | hz'
      · exact absurd hz (nr b1)
      · exact hz'

/-- No key comes twice. -/
def Unlike (l : List PairS) : Prop := l.Pairwise fun a b => a.key ≠ b.key
theorem puts_mem (x : PairS) : ∀ (ps l : List PairS), RisingP l → Unlike ps → (∀ a ∈ ps, ∀ y ∈ l, a.key ≠ y.key) → (x ∈ ps.foldl (fun l x => putIf x l) l ↔ x ∈ l ∨ (x ∈ ps ∧ wrongP x = 0))
  | [], l, _, _, _ => by simp
  | a :: r, l, hl, hu, hd => by
    obtain ⟨u1, u2⟩ := List.pairwise_cons.1 hu
    have hm : ∀ y, y ∈ putIf a l ↔ y ∈ l ∨ (y = a ∧ wrongP a = 0) := fun y => by
      unfold putIf
      split
      · rename_i hw
        rw [mem_putP_iff hl]
        constructor
        · rintro (rfl | ⟨h1, _⟩)
          · exact .inr ⟨rfl, hw⟩
          · exact .inl h1
        · rintro (h1 | ⟨rfl, _⟩)
          · exact .inr ⟨h1, fun e => hd a (List.mem_cons_self ..) y h1 e.symm⟩
          · exact .inl rfl
      · rename_i hw
        constructor
        · exact .inl
        · rintro (h1 | ⟨_, h2⟩)
          · exact h1
          · exact absurd h2 hw
    rw [List.foldl_cons, puts_mem x r (putIf a l) (putIf_rising hl) u2 (fun b hb y hy => by
      rcases (hm y).1 hy with h1 | ⟨rfl, _⟩
      · exact hd b (List.mem_cons_of_mem _ hb) y h1
      · exact fun e => u1 b hb e.symm), hm]
    constructor
    · rintro ((h1 | ⟨rfl, h2⟩) | ⟨h1, h2⟩)
      · exact .inl h1
      · exact .inr ⟨List.mem_cons_self .., h2⟩
      · exact .inr ⟨List.mem_cons_of_mem _ h1, h2⟩
    · rintro (h1 | ⟨h1, h2⟩)
      · exact .inl (.inl h1)
      · rcases List.mem_cons.1 h1 with rfl | h1
        · exact .inl (.inr ⟨rfl, h2⟩)
        · exact .inr ⟨h1, h2⟩
theorem putsP_mem {ps : List PairS} (hu : Unlike ps) (x : PairS) : x ∈ putsP ps ↔ x ∈ ps ∧ wrongP x = 0 := by
  have := puts_mem x ps [] List.Pairwise.nil hu (fun _ _ _ h => by cases h)
  unfold putsP
  simpa using this
theorem putsP_rise (ps : List PairS) : RisingP (putsP ps) := by
  have := putsP_rising ps ps.length
  rwa [List.take_length] at this
/-- Pairs of unlike keys, in whichever order they are put. -/
theorem putsP_order {a b : List PairS} (ha : Unlike a) (hb : Unlike b) (h : ∀ x, x ∈ a ↔ x ∈ b) : putsP a = putsP b :=
  rising_ext (putsP_rise a) (putsP_rise b) fun x => by rw [putsP_mem ha, putsP_mem hb, h]

/-- The first of each key. -/
def hasK (k : ByteArray) (l : List PairS) : Bool := l.any fun y => decide (y.key = k)
def addP (l : List PairS) (x : PairS) : List PairS := if hasK x.key l then l else l ++ [x]
def firstsP (ps : List PairS) : List PairS := ps.foldl addP []
theorem firstsP_next {ps : List PairS} {k : Nat} (h : k < ps.length) : firstsP (ps.take (k + 1)) = addP (firstsP (ps.take k)) ps[k] := by
  unfold firstsP
  rw [List.take_succ_eq_append_getElem h, List.foldl_append]
  rfl
theorem addP_len (l : List PairS) (x : PairS) : (addP l x).length ≤ l.length + 1 := by
  unfold addP
  split
  · omega
  · simp
theorem addP_unlike {l : List PairS} (x : PairS) (h : Unlike l) : Unlike (addP l x) := by
  unfold addP
  split
  · exact h
  · rename_i hn
    refine List.pairwise_append.2 ⟨h, List.pairwise_singleton _ _, fun a ha b hb => ?_⟩
    rcases List.mem_singleton.1 hb with rfl
    intro e
    exact hn (List.any_eq_true.2 ⟨a, ha, by simpa using e⟩)
theorem firsts_unlike : ∀ (ps l : List PairS), Unlike l → Unlike (ps.foldl addP l)
  | [], _, h => h
  | x :: r, l, h => firsts_unlike r (addP l x) (addP_unlike x h)
theorem firstsP_unlike (ps : List PairS) : Unlike (firstsP ps) := firsts_unlike ps [] List.Pairwise.nil
theorem firstsP_len : ∀ (ps : List PairS) (k : Nat), (firstsP (ps.take k)).length ≤ k
  | ps, 0 => by simp [firstsP]
  | ps, k + 1 => by
    have ih := firstsP_len ps k
    by_cases h : k < ps.length
    · rw [firstsP_next h]
      have := addP_len (firstsP (ps.take k)) ps[k]
      omega
    · have e : ps.take (k + 1) = ps.take k := by rw [List.take_of_length_le (by omega), List.take_of_length_le (by omega)]
      rw [e]; omega
theorem hasK_add (k : ByteArray) (l : List PairS) (x : PairS) : hasK k (addP l x) = (hasK k l || decide (x.key = k)) := by
  unfold addP
  split
  · rename_i h
    by_cases e : x.key = k
    · subst e; rw [h]; rfl
    · simp [e]
  · simp [hasK]

/-- Where the i-th put of the other order comes from. -/
def backAt (n : Nat) (t : Int) (i : Nat) : Nat := n - 1 - (((i : Int) + t) % (n : Int)).toNat
def turnedP (l : List PairS) (t : Int) (m : Nat) : List PairS := (List.range m).map fun i => l.getD (backAt l.length t i) zeroP
theorem backAt_lt {n : Nat} (h : 0 < n) (t : Int) (i : Nat) : backAt n t i < n := by unfold backAt; omega
theorem turnedP_next (l : List PairS) (t : Int) (m : Nat) : turnedP l t (m + 1) = turnedP l t m ++ [l.getD (backAt l.length t m) zeroP] := by
  unfold turnedP
  rw [List.range_succ, List.map_append]
  rfl
theorem turnedP_len (l : List PairS) (t : Int) (m : Nat) : (turnedP l t m).length = m := by simp [turnedP]
theorem backAt_inj {n : Nat} {t : Int} {i j : Nat} (hi : i < n) (hj : j < n) (e : backAt n t i = backAt n t j) : i = j := by
  unfold backAt at e
  have hn : (0 : Int) < n := by omega
  have a1 := Int.emod_nonneg ((i : Int) + t) (show (n : Int) ≠ 0 by omega)
  have a2 := Int.emod_lt_of_pos ((i : Int) + t) hn
  have b1 := Int.emod_nonneg ((j : Int) + t) (show (n : Int) ≠ 0 by omega)
  have b2 := Int.emod_lt_of_pos ((j : Int) + t) hn
  have e2 : ((i : Int) + t) % n = ((j : Int) + t) % n := by omega
  have e4 : (((i : Int) + t) - ((j : Int) + t)) % n = 0 := Int.emod_eq_emod_iff_emod_sub_eq_zero.1 e2
  have e5 : (n : Int) ∣ ((i : Int) - j) := by
    have := Int.dvd_of_emod_eq_zero e4
    rwa [show ((i : Int) + t) - ((j : Int) + t) = (i : Int) - j by omega] at this
  obtain ⟨c, hc⟩ := e5
  rcases Int.lt_trichotomy c 0 with h | h | h
  · have : (n : Int) * c ≤ (n : Int) * (-1) := Int.mul_le_mul_of_nonneg_left (by omega) (by omega)
    omega
  · subst h; omega
  · have : (n : Int) * 1 ≤ (n : Int) * c := Int.mul_le_mul_of_nonneg_left (by omega) (by omega)
    omega
theorem backAt_onto {n : Nat} (t : Int) {j : Nat} (hj : j < n) : ∃ i, i < n ∧ backAt n t i = j := by
  have hn : (0 : Int) < n := by omega
  refine ⟨(((n : Int) - 1 - j - t) % n).toNat, ?_, ?_⟩
  · have a1 := Int.emod_nonneg ((n : Int) - 1 - j - t) (show (n : Int) ≠ 0 by omega)
    have a2 := Int.emod_lt_of_pos ((n : Int) - 1 - j - t) hn
    omega
  · have a1 := Int.emod_nonneg ((n : Int) - 1 - j - t) (show (n : Int) ≠ 0 by omega)
    unfold backAt
    rw [Int.toNat_of_nonneg a1]
    have e : (((n : Int) - 1 - j - t) % n + t) % n = (n : Int) - 1 - j := by
      rw [Int.add_emod, Int.emod_emod, ← Int.add_emod, show (n : Int) - 1 - j - t + t = (n : Int) - 1 - j by omega]
      exact Int.emod_eq_of_lt (by omega) (by omega)
    rw [e]
    omega
theorem turnedP_unlike {l : List PairS} (h : Unlike l) (t : Int) : Unlike (turnedP l t l.length) := by
  unfold turnedP Unlike
  rw [List.pairwise_map]
  refine List.pairwise_iff_getElem.2 fun i j hi hj hij => ?_
  have hi' : i < l.length := by simpa using hi
  have hj' : j < l.length := by simpa using hj
  simp only [List.getElem_range]
  have b1 := backAt_lt (n := l.length) (by omega) t i
  have b2 := backAt_lt (n := l.length) (by omega) t j
  have ne : backAt l.length t i ≠ backAt l.length t j := fun e => by have := backAt_inj hi' hj' e; omega
  have g : ∀ {q : Nat} (hq : q < l.length), l.getD q zeroP = l[q] := fun {q} hq => by simp [List.getD, hq]
  rw [g b1, g b2]
  rcases Nat.lt_or_gt_of_ne ne with h1 | h1
  · exact List.pairwise_iff_getElem.1 h _ _ b1 b2 h1
  · exact fun e => List.pairwise_iff_getElem.1 h _ _ b2 b1 h1 e.symm
theorem turnedP_mem (l : List PairS) (t : Int) (x : PairS) : x ∈ turnedP l t l.length ↔ x ∈ l := by
  have g : ∀ {q : Nat} (hq : q < l.length), l.getD q zeroP = l[q] := fun {q} hq => by simp [List.getD, hq]
  unfold turnedP
  rw [List.mem_map]
  constructor
  · rintro ⟨i, hi, rfl⟩
    have hi' := List.mem_range.1 hi
    have b1 := backAt_lt (n := l.length) (by omega) t i
    rw [g b1]
    exact List.getElem_mem b1
  · intro hx
    obtain ⟨j, hj, rfl⟩ := List.mem_iff_getElem.1 hx
    obtain ⟨i, hi, e⟩ := backAt_onto t hj
    exact ⟨i, List.mem_range.2 hi, by rw [e, g hj]⟩
theorem turned_order {l : List PairS} (h : Unlike l) (t : Int) : putsP (turnedP l t l.length) = putsP l :=
  putsP_order (turnedP_unlike h t) h (turnedP_mem l t)
end Go.Proofs.YtmmamgnbonpkiaaDoor

/- Joined: M13h R13h K14. -/
import Derived.Test.YtlkfpeefjpmmfaaM13
import Derived.Test.YtlkfpeefjpmmfaaJ22
import Derived.Test.YtlkfpeefjpmmfaaR14l

namespace Go.Proofs.Ytlkfpeefjpmmfaa
set_option linter.unusedVariables false

/-- Were so many texts events? -/
def okTs (R : Option (List UInt8)) : Nat → Bool
  | 0 => true
  | n + 1 => okTs R n && okE (textS (rdEvs R n).2).1
def okH (l : List UInt8) : Bool := okTs (intS 500 (some l)).2 (intS 500 (some l)).1 && (rdHist l).2 == some []
theorem rdEvs_len (R : Option (List UInt8)) : ∀ n, (rdEvs R n).1.length = n
  | 0 => rfl
  | n + 1 => by
    show ((rdEvs R n).1 ++ [_]).length = n + 1
    rw [List.length_append, rdEvs_len R n]
    rfl
theorem okE_nil : okE [] = false := by
  cases h : okE [] with
  | false => rfl
  | true =>
    obtain ⟨e, he, h2⟩ := (okE_iff _).1 h
    have := congrArg List.length h2
    unfold encEv headL at this
    simp only [List.length_append, List.length_nil] at this
    have := putL_pos e.id.toNat
    omega
theorem okE_is {l : List UInt8} (h : okE l = true) : evB (rdEv (some l)).1 = true ∧ encEv (rdEv (some l)).1 = l := by
  unfold okE at h
  simp only [Bool.and_eq_true, beq_iff_eq] at h
  exact ⟨h.1.1, h.2⟩
/-- What was read, backwards. -/
theorem ts_is {R : List UInt8} : ∀ (n : Nat), okTs (some R) n = true → (rdEvs (some R) n).1.all evB = true ∧ ∃ r, (rdEvs (some R) n).2 = some r ∧ R = encEvs (rdEvs (some R) n).1 ++ r ∨ (rdEvs (some R) n).2 = none
  | 0, _ => ⟨rfl, R, .inl ⟨rfl, rfl⟩⟩
  | n + 1, h => by
    unfold okTs at h
    rw [Bool.and_eq_true] at h
    obtain ⟨h1, r, h2⟩ := ts_is n h.1
    have hd := okE_is h.2
    have e : rdEvs (some R) (n + 1) = ((rdEvs (some R) n).1 ++ [(rdEv (some (textS (rdEvs (some R) n).2).1)).1], (textS (rdEvs (some R) n).2).2) := rfl
    rw [e]
    refine ⟨by rw [List.all_append, h1]; simp [hd.1], ?_⟩
    rcases h2 with ⟨h2, h3⟩ | h2
    · cases ht : (textS (some r)).2 with
      | none => exact ⟨[], .inr (by rw [h2, ht])⟩
      | some q =>
        have hx := text_inv (show textS (some r) = ((textS (some r)).1, some q) by rw [← ht])
        refine ⟨q, .inl ⟨by rw [h2, ht], ?_⟩⟩
        rw [h2] at hd ⊢
        unfold encEvs at h3 ⊢
        rw [List.flatMap_append, List.flatMap_cons, List.flatMap_nil, List.append_nil, hd.2, List.append_assoc]
        unfold textP
        rw [List.append_assoc, ← hx.2]
        exact h3
    · have := h.2
      rw [h2, text_none, okE_nil] at this
      cases this
theorem okH_is {l : List UInt8} (h : okH l = true) : histB (rdHist l).1 = true ∧ encHist (rdHist l).1 = l := by
  unfold okH at h
  rw [Bool.and_eq_true, beq_iff_eq] at h
  cases hi : (intS 500 (some l)).2 with
  | none =>
    have e : rdHist l = rdEvs none (intS 500 (some l)).1 := by show rdEvs (intS 500 (some l)).2 _ = _; rw [hi]
    have hz : ∀ n, (rdEvs none n).2 = none := fun n => by
      induction n with
      | zero => rfl
      | succ n ih => show (textS (rdEvs none n).2).2 = none; rw [ih]; rfl
    rw [e, hz] at h
    cases h.2
  | some R =>
    have hx := int_inv (show intS 500 (some l) = ((intS 500 (some l)).1, some R) by rw [← hi])
    have e : rdHist l = rdEvs (some R) (intS 500 (some l)).1 := by show rdEvs (intS 500 (some l)).2 _ = _; rw [hi]
    rw [hi] at h
    rw [e] at h ⊢
    obtain ⟨h1, r, h2⟩ := ts_is _ h.1
    rcases h2 with ⟨h2, h3⟩ | h2
    · rw [h.2] at h2
      injection h2 with h2
      subst h2
      have hl := rdEvs_len (some R) (intS 500 (some l)).1
      refine ⟨?_, ?_⟩
      · unfold histB
        rw [h1, hl]
        simp
        omega
      · unfold encHist
        rw [hl]
        rw [List.append_nil] at h3
        rw [← h3]
        exact hx.2.2.symm
    · rw [h2] at h
      cases h.2
theorem okH_hist {l : List EvS} (h : histB l = true) : okH (encHist l) = true := by
  have hr := rd_hist h
  unfold okH
  rw [hr]
  unfold histB at h
  simp only [Bool.and_eq_true, decide_eq_true_eq] at h
  have hn9 : ∀ r, intS 500 (some (putL l.length ++ r)) = (l.length, some r) := intS_lit (m := 500) h.1 (by decide)
  have e : intS 500 (some (encHist l)) = (l.length, some (encEvs l)) := hn9 _
  rw [e]
  simp only [beq_self_eq_true, Bool.and_true]
  have hall : ∀ k, k ≤ l.length → okTs (some (encEvs l)) k = true := fun k => by
    induction k with
    | zero => intro _; rfl
    | succ k ih =>
      intro hk
      unfold okTs
      rw [ih (by omega), Bool.true_and]
      have hre := rd_evs l h.2 [] k (by omega)
      rw [List.append_nil] at hre
      have hd : l.drop k = l[k] :: l.drop (k + 1) := List.drop_eq_getElem_cons (by omega)
      have hs : evB l[k] = true := List.all_eq_true.1 h.2 _ (List.getElem_mem _)
      have hn := encEv_len hs
      have e2 : encEvs (l[k] :: l.drop (k + 1)) ++ [] = textP (encEv l[k]) ++ (encEvs (l.drop (k + 1)) ++ []) := by unfold encEvs; rw [List.flatMap_cons, List.append_assoc]
      rw [hre, hd, e2, textP_read (by omega)]
      exact okE_ev hs
  exact hall _ (Nat.le_refl _)
theorem okH_iff (l : List UInt8) : okH l = true ↔ ∃ h, histB h = true ∧ encHist h = l :=
  ⟨fun h => ⟨_, okH_is h⟩, fun ⟨h, h1, h2⟩ => by rw [← h2]; exact okH_hist h1⟩
/-- How Unpack ends. -/
def HistEnd (l : List UInt8) (h : List EvS) (E : Nat) : Prop := (okH l = true ∧ h = (rdHist l).1 ∧ E = 0) ∨ (okH l = false ∧ h = [] ∧ E = 60)
end Go.Proofs.Ytlkfpeefjpmmfaa

namespace Go.Proofs.Ytlkfpeefjpmmfaa
open Go.RowKit
set_option linter.unusedVariables false

def rowE (l : List EvS) : List Value := l.flatMap EvS.cells
theorem rowE_snoc (l : List EvS) (x : EvS) : rowE (l ++ [x]) = rowE l ++ x.cells := by simp [rowE]
theorem rowE_at : ∀ (l : List EvS) (i : Nat) (h : i < l.length) (j : Nat) (u : Value), l[i].cells[j]? = some u → (rowE l)[i * 8 + j]? = some u
  | x :: r, 0, _, j, u, hu => by
    have e : rowE (x :: r) = x.cells ++ rowE r := rfl
    have hj : j < x.cells.length := (List.getElem?_eq_some_iff.1 hu).1
    rw [e, Nat.zero_mul, Nat.zero_add, List.getElem?_append_left hj]
    exact hu
  | x :: r, i + 1, h, j, u, hu => by
    have e : rowE (x :: r) = x.cells ++ rowE r := rfl
    have hl : x.cells.length = 8 := rfl
    have ih := rowE_at r i (by simpa using h) j u (by simpa using hu)
    rw [e, List.getElem?_append_right (by omega), show (i + 1) * 8 + j - x.cells.length = i * 8 + j by omega]
    exact ih
theorem EvS.one (x : EvS) : ∀ u ∈ x.cells, u.oneCell' = true := by
  intro u hu
  simp [EvS.cells] at hu
  rcases hu with rfl | rfl | rfl | rfl | rfl | rfl | rfl | rfl <;> rfl
theorem ReadE.own {w : World} {base : Nat} {v : Value} {l : List EvS} (h : w.ownsRow base 39 8 v l.length (rowE l)) (hz : ∀ x ∈ l, x.data.size ≤ maxLen) : ReadE w v l := by
  rcases h.2 with ⟨rfl, h0⟩ | ⟨g, cap, cur, rfl, _, hg, hle, hcm, _⟩
  · have : l = [] := List.eq_nil_of_length_eq_zero h0
    subst this
    exact ⟨by simp [maxLen], hz, none, 0, rfl, .inl rfl⟩
  · refine ⟨Nat.le_trans hle hcm, hz, some ⟨g, 0, none⟩, cap, rfl, .inr ⟨g, 0, rfl, fun i hi j u hu => ?_⟩⟩
    have hlt : i * 8 + j < l.length * 8 := by
      have : j < l[i].cells.length := (List.getElem?_eq_some_iff.1 hu).1
      have e : l[i].cells.length = 8 := rfl
      omega
    rw [Nat.zero_add]
    exact (h.cellAt (i * 8 + j) hlt).trans (rowE_at l i hi j u hu)
theorem ReadE.nil (w : World) : ReadE w (.slice none 0 0) [] := ⟨by simp [maxLen], fun x hx => (by cases hx), none, 0, rfl, .inl rfl⟩
/-- A history while it is read: the reader, the events so far. -/
structure HiAt (w wr : World) (R : Option (List UInt8)) (v : Value) (l : List EvS) : Prop where
  rd : RDE wr w.heap.size R
  row : wr.ownsRow 0 39 8 v l.length (rowE l)
  blk : ∀ k, v.ownBlock = some k → w.heap.size < k
  below : Below w.heap.size w wr
section
variable {w wr w' : World} {R R' : Option (List UInt8)} {v : Value} {l : List EvS}
theorem HiAt.call (h : HiAt w wr R v l) (t : Left wr w' w.heap.size R') : HiAt w w' R' v l :=
  ⟨t.1, h.row.kept t.2 (.inr (fun e => by have := h.blk _ e; omega)), h.blk, h.below.trans (t.below h.below.size (Nat.le_refl _))⟩
theorem HiAt.later (h : HiAt w wr R v l) (b : Below wr.heap.size wr w') : HiAt w w' R v l :=
  ⟨h.rd.below b, ownsRow_below h.row b, h.blk, h.below.trans (b.mono h.below.size)⟩
theorem HiAt.add {v' : Value} {x : EvS} (h : HiAt w wr R v l) (hg : wr.grownBy w' v.ownBlock) (ho : w'.ownsRow 0 39 8 v' (l.length + 1) (rowE l ++ x.cells)) (hv : ∀ k, v'.ownBlock = some k → v.ownBlock = some k ∨ wr.heap.size ≤ k) :
    HiAt w w' R v' (l ++ [x]) := by
  have hlt := h.rd.lt
  refine ⟨h.rd.kept hg (fun e => by have := h.blk _ e.symm; omega), by rw [List.length_append, rowE_snoc]; exact ho, fun k hk => ?_, h.below.grown hg h.below.size (fun k hk => Nat.le_of_lt (h.blk k hk))⟩
  rcases hv k hk with e | e
  · exact h.blk k e
  · omega
end
theorem Most.evs {N : Nat} {R : Option (List UInt8)} (h : Most N R) : ∀ n, Most N (rdEvs R n).2
  | 0 => h
  | n + 1 => (Most.evs h n).text.1
theorem Most.rdEv {N : Nat} {l : List UInt8} (h : l.length ≤ N) : (rdEv (some l)).1.data.size ≤ N :=
  (Most.flds (shapeL (rdHead (some l)).1.kind) (Most.head (N := N) (R := some l) (fun r hr => by injection hr with hr; rw [← hr]; exact h))).2
theorem rdEvs_data {N : Nat} {R : Option (List UInt8)} (h : Most N R) : ∀ n, ∀ x ∈ (rdEvs R n).1, x.data.size ≤ N
  | 0, x, hx => by cases hx
  | n + 1, x, hx => by
    rcases List.mem_append.1 hx with hx | hx
    · exact rdEvs_data h n x hx
    · rw [List.mem_singleton.1 hx]; exact Most.rdEv (Most.evs h n).text.2
theorem okTs_mono {R : Option (List UInt8)} {k : Nat} : ∀ {n : Nat}, k ≤ n → okTs R n = true → okTs R k = true
  | 0, h, _ => by
    obtain rfl : k = 0 := by omega
    rfl
  | n + 1, h, ht => by
    by_cases e : k = n + 1
    · subst e; exact ht
    · unfold okTs at ht
      rw [Bool.and_eq_true] at ht
      exact okTs_mono (by omega) ht.1

end Go.Proofs.Ytlkfpeefjpmmfaa

namespace Go.Proofs.Ytlkfpeefjpmmfaa
open Go.RowKit
set_option linter.unusedVariables false

/-- A state whose slices are the call's own, each in a block of its own. -/
structure OwnSt (base : Nat) (w : World) (g j k : Value) (s : StS) : Prop where
  read : ReadSt w g j k s
  og : OwnR StepS.cells 6 base w g s.prog.steps
  oj : OwnR JobS.cells 4 base w j s.jobs
  ok : OwnR ClkS.cells 3 base w k s.clocks
  ne : (∀ q, g.ownBlock = some q → j.ownBlock ≠ some q ∧ k.ownBlock ≠ some q) ∧ ∀ q, j.ownBlock = some q → k.ownBlock ≠ some q
theorem OwnSt.below {base : Nat} {w w' : World} {g j k : Value} {s : StS} (h : OwnSt base w g j k s) (t : Below w.heap.size w w') : OwnSt base w' g j k s := ⟨h.read.below t, h.og.below t, h.oj.below t, h.ok.below t, h.ne⟩

structure StateK : Prop where
  build : ∀ {w : World} {a : Option Addr} {c : Nat} (l : List EvS), ReadE w (.slice a l.length c) l → l.length ≤ c → (∀ x ∈ l, x.data.size ≤ 140737488351232) → Calls Try.prog 9 #[.slice a l.length c] w fun x w' => ∃ g j k S i E, x = .returned (.tuple #[S.val' g j k, .int .i64 (i : Nat), .int .i64 (E : Nat)]) ∧ OwnSt w.heap.size w' g j k S ∧ BldEnd l S i E ∧ Below w.heap.size w w'
  apply : ∀ {w : World} {g j k : Value} (l : List EvS) (e : EvS), OkH l → ReadSt w g j k (stateH l) → e.data.size ≤ 140737488351232 → Calls Try.prog 12 #[(stateH l).val' g j k, e.val'] w fun x w' => ∃ g' j' k' S E, x = .returned (.tuple #[S.val' g' j' k', .int .i64 (E : Nat)]) ∧ OwnSt w.heap.size w' g' j' k' S ∧ E = errS (stateH l) e ∧ (E = 0 → S = stateH (l ++ [e])) ∧ (E ≠ 0 → S = StS.zero) ∧ Below w.heap.size w w'

def aData : ByteArray := ⟨#[0, 1, 1, 1, 97, 2, 0, 0]⟩
def aProg : ProgS := ⟨[⟨1, ⟨#[97]⟩, ⟨#[]⟩, 2, 0, 0⟩], 0⟩
theorem aProg_ok : progB aProg = true := by decide
theorem aProg_enc : encProg aProg = aData.data.toList := by
  have h0 : putL 0 = [0] := putL_lt (by omega)
  have h1 : putL 1 = [1] := putL_lt (by omega)
  have h2 : putL 2 = [2] := putL_lt (by omega)
  unfold encProg encSteps encStep textL aProg aData
  simp only [List.flatMap_cons, List.flatMap_nil, List.length_cons, List.length_nil, if_true]
  show putL 0 ++ putL 1 ++ (putL 1 ++ (putL 1 ++ [97] ++ putL 2 ++ (putL 0 ++ []) ++ putL 0) ++ []) = _
  rw [h0, h1, h2]
  rfl
def aEv1 : EvS := ⟨1, 1, 0, 0, 0, 0, false, aData⟩
def aEv2 : EvS := ⟨2, 6, 0, 0, 0, 0, false, ⟨#[]⟩⟩
def aEv3 : EvS := ⟨3, 7, 0, 2, 0, 2, false, ⟨#[]⟩⟩
theorem aEv1_ok : evB aEv1 = true := by
  have hd : okB aData.data.toList = true := by rw [← aProg_enc]; exact okB_prog aProg_ok
  have he : evB aEv1 = (true && okB aData.data.toList) := rfl
  rw [he, hd]
  rfl
theorem aEv1_prog : progE aEv1 = aProg := by
  show (rdProg aData.data.toList).1 = aProg
  rw [← aProg_enc, rd_prog aProg_ok]
def aSt1 : StS := ⟨aProg, 0, 2, 0, 0, 0, true, [], [], false, false⟩
def aSt2 : StS := ⟨aProg, 0, 3, 0, 0, 0, true, [⟨2, 0, false, 1⟩], [], false, false⟩
theorem aErr1 : errS (stateH []) aEv1 = 0 := by
  show errS StS.zero aEv1 = 0
  unfold errS
  rw [aEv1_ok]
  rfl
theorem aHist1 : OkH [aEv1] ∧ stateH [aEv1] = aSt1 := by
  have h := OkH.snoc OkH.nil aErr1
  refine ⟨h, ?_⟩
  have := state_snoc OkH.nil aErr1
  rw [List.nil_append] at this
  rw [this]
  show aftS StS.zero aEv1 = aSt1
  unfold aftS
  rw [if_pos (show StS.zero.next = 0 from rfl), aEv1_prog]
  rfl
theorem aErr2 : errS aSt1 aEv2 = 0 := by decide
theorem aHist2 : OkH [aEv1, aEv2] ∧ stateH [aEv1, aEv2] = aSt2 := by
  obtain ⟨h1, h2⟩ := aHist1
  have he : errS (stateH [aEv1]) aEv2 = 0 := by rw [h2]; exact aErr2
  have h := OkH.snoc h1 he
  refine ⟨h, ?_⟩
  have := state_snoc h1 he
  rw [h2] at this
  exact this
theorem aErr3 : errS aSt2 aEv3 = 120 := by decide
theorem aBld2 : BldEnd [aEv1, aEv2] aSt2 0 0 := .inl ⟨aHist2.1, aHist2.2.symm, rfl, rfl⟩
theorem aBld3 : BldEnd [aEv1, aEv2, aEv3] StS.zero 2 120 := by
  refine .inr ⟨by simp, aHist2.1, ?_, by omega, rfl⟩
  show errS (stateH [aEv1, aEv2]) aEv3 = 120
  rw [aHist2.2]
  exact aErr3

set_option maxHeartbeats 1000000 in
set_option maxRecDepth 100000 in
theorem begun_any (w : World) : Calls Try.prog 15 #[] w fun x w' => x = .returned aEv1.val' ∧ Below w.heap.size w w' := by
  obtain ⟨w1, hw1⟩ : ∃ w1, w.alloc (.cells #[.int .i64 0, .int .i64 0, .int .i64 0, .int .i64 0, .int .i64 0, .int .i64 0, .bool false, .string ⟨#[]⟩] 39) = w1 := ⟨_, rfl⟩
  have hb1 : Below w.heap.size w w1 := by rw [← hw1]; exact (Below.refl _ w).alloc (Nat.le_refl _) _
  have hn1 : w1.heap[w.heap.size]? = some (.cells #[.int .i64 0, .int .i64 0, .int .i64 0, .int .i64 0, .int .i64 0, .int .i64 0, .bool false, .string ⟨#[]⟩] 39 (0, 0)) := by rw [← hw1]; exact heap_alloc_new _ _
  have q0 := (block_cell hn1 0).trans rfl
  have q1 := (block_cell hn1 1).trans rfl
  have q2 := (block_cell hn1 2).trans rfl
  have q3 := (block_cell hn1 3).trans rfl
  have q4 := (block_cell hn1 4).trans rfl
  have q5 := (block_cell hn1 5).trans rfl
  have q6 := (block_cell hn1 6).trans rfl
  have q7 := (block_cell hn1 7).trans rfl
  have f0 := block_free hn1 0
  have f1 := block_free hn1 1
  have f2 := block_free hn1 2
  have f3 := block_free hn1 3
  have f4 := block_free hn1 4
  have f5 := block_free hn1 5
  have f6 := block_free hn1 6
  have f7 := block_free hn1 7
  have HB1 := Lib.hid hb1
  clear hb1 hn1
  go_enter Try.func15, Try.ntmps15
  go_wp2
  (try simp only [Exit.inBlock, Exit.then])
  refine bodyPost_ret (v := .agg #[.int .i64 1, .int .i64 1, .int .i64 0, .int .i64 0, .int .i64 0, .int .i64 0, .bool false, .string ⟨#[0, 1, 1, 1, 97, 2, 0, 0]⟩]) ?_ rfl ⟨rfl, ?_⟩
  · rw [results_cell14 rfl]
    go_simp
  · exact (((((((HB1.out.setCell (p := ⟨w.heap.size, 0, none⟩) (Nat.le_refl _) _).setCell (p := ⟨w.heap.size, 1, none⟩) (Nat.le_refl _) _).setCell (p := ⟨w.heap.size, 2, none⟩) (Nat.le_refl _) _).setCell (p := ⟨w.heap.size, 3, none⟩) (Nat.le_refl _) _).setCell (p := ⟨w.heap.size, 4, none⟩) (Nat.le_refl _) _).setCell (p := ⟨w.heap.size, 5, none⟩) (Nat.le_refl _) _).setCell (p := ⟨w.heap.size, 6, none⟩) (Nat.le_refl _) _).setCell (p := ⟨w.heap.size, 7, none⟩) (Nat.le_refl _) _
end Go.Proofs.Ytlkfpeefjpmmfaa

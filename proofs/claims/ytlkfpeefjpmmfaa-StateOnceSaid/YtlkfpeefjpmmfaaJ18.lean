/- Joined: I21 R14c. -/
import Derived.Test.YtlkfpeefjpmmfaaW00b
import Derived.Test.YtlkfpeefjpmmfaaJ17
import Derived.Test.YtlkfpeefjpmmfaaR12g

namespace Go.Proofs.Ytlkfpeefjpmmfaa
open Go.RowKit
set_option linter.unusedVariables false

theorem SrcRow.drew {w : World} {x : Value} {m sz : Nat} {news : List Value} (h : SrcRow w x m sz news) : SrcRow w.drew x m sz news := ⟨h.len, h.one, h.row⟩
theorem results_cell14 {fn : Func} {p : Tmp} {ty : TypeId} (h : fn.results = #[.cell p ty]) (tmps : Array Value) (P : Program) (w : World) :
    (results fn tmps).run P w = ((asAddr (tmps.getD p undef)).run P w).andThen fun a w₁ => (loadVar ty a).run P w₁ := by
  simp only [results, h]
  simp [Sem.run_bind]
section
variable {α : Type} (f : α → List Value) (sz : Nat)
def rowR (l : List α) : List Value := l.flatMap f
theorem rowR_snoc (l : List α) (x : α) : rowR f (l ++ [x]) = rowR f l ++ f x := by simp [rowR]
theorem rowR_app (l m : List α) : rowR f (l ++ m) = rowR f l ++ rowR f m := by simp [rowR]
theorem rowR_len (hf : ∀ x, (f x).length = sz) (l : List α) : (rowR f l).length = l.length * sz := by
  induction l with
  | nil => simp [rowR]
  | cons p r ih =>
    have e : rowR f (p :: r) = f p ++ rowR f r := rfl
    rw [e, List.length_append, ih, List.length_cons, hf, Nat.add_mul]
    omega
theorem rowR_at (hf : ∀ x, (f x).length = sz) : ∀ (l : List α) (i : Nat) (h : i < l.length) (j : Nat) (u : Value), (f l[i])[j]? = some u → (rowR f l)[i * sz + j]? = some u
  | x :: r, 0, _, j, u, hu => by
    have e : rowR f (x :: r) = f x ++ rowR f r := rfl
    have hu : (f x)[j]? = some u := hu
    have hj : j < (f x).length := (List.getElem?_eq_some_iff.1 hu).1
    rw [e, Nat.zero_mul, Nat.zero_add, List.getElem?_append_left hj]
    exact hu
  | x :: r, i + 1, h, j, u, hu => by
    have e : rowR f (x :: r) = f x ++ rowR f r := rfl
    have ih := rowR_at hf r i (by simpa using h) j u (by simpa using hu)
    have hm : (i + 1) * sz + j - (f x).length = i * sz + j := by rw [hf, Nat.add_mul]; omega
    have hle : (f x).length ≤ (i + 1) * sz + j := by rw [hf, Nat.add_mul]; omega
    rw [e, List.getElem?_append_right hle, hm]
    exact ih
/-- Rows that can be read. -/
def ReadR (w : World) (v : Value) (l : List α) : Prop :=
  l.length ≤ maxLen ∧ ∃ a c, v = .slice a l.length c ∧ (l = [] ∨ ∃ b o, a = some ⟨b, o, none⟩ ∧ ∀ i (h : i < l.length), ∀ j u, (f l[i])[j]? = some u → w.cell? ⟨b, o + i * sz + j, none⟩ = some u)
/-- Rows of the call's own: what they lie in is no older than 'base', and may be written. -/
def OwnR (base : Nat) (w : World) (v : Value) (l : List α) : Prop :=
  ReadR f sz w v l ∧ (∀ k, v.ownBlock = some k → base ≤ k ∧ k < w.heap.size) ∧ ∀ b o n c, v = .slice (some ⟨b, o, none⟩) n c → ∀ j, j < l.length * sz → w.frozen? ⟨b, o + j, none⟩ = false
variable {f sz}
theorem ReadR.below {w w' : World} {v : Value} {l : List α} (h : ReadR f sz w v l) (t : Below w.heap.size w w') : ReadR f sz w' v l := by
  obtain ⟨h1, a, c, rfl, h3⟩ := h
  refine ⟨h1, a, c, rfl, ?_⟩
  rcases h3 with h3 | ⟨b, o, rfl, h3⟩
  · exact .inl h3
  · exact .inr ⟨b, o, rfl, fun i hi j u hu => (t.cell (World.block_lt_of_cell? w ⟨b, o + i * sz + j, none⟩ (h3 i hi j u hu))).trans (h3 i hi j u hu)⟩
theorem ReadR.slice {w : World} {v : Value} {l : List α} (h : ReadR f sz w v l) : ∃ a c, v = .slice a l.length c := by
  obtain ⟨_, a, c, h, _⟩ := h
  exact ⟨a, c, h⟩
theorem ReadR.at {w : World} {a : Option Addr} {n c : Nat} {l : List α} (h : ReadR f sz w (.slice a n c) l) {i : Nat} (hi : i < l.length) :
    ∃ b o, a = some ⟨b, o, none⟩ ∧ ∀ j u, (f l[i])[j]? = some u → w.cell? ⟨b, o + i * sz + j, none⟩ = some u := by
  obtain ⟨_, a', c', hv, h3⟩ := h
  injection hv with e1 e2 e3
  subst e1
  rcases h3 with h3 | ⟨b, o, rfl, h3⟩
  · subst h3; simp at hi
  · exact ⟨b, o, rfl, h3 i hi⟩
theorem ReadR.nil (w : World) : ReadR f sz w (.slice none 0 0) [] := ⟨by simp [maxLen], none, 0, rfl, .inl rfl⟩
theorem OwnR.nil (base : Nat) (w : World) : OwnR f sz base w (.slice none 0 0) [] := ⟨ReadR.nil w, fun k hk => by simp [Value.ownBlock] at hk, fun b o n c h => by injection h with h; cases h⟩
theorem OwnR.of {w : World} {base base' : Nat} {t : TypeId} {v : Value} {l : List α} (hf : ∀ x, (f x).length = sz) (h : w.ownsRow base t sz v l.length (rowR f l)) (hb : ∀ k, v.ownBlock = some k → base' ≤ k) : OwnR f sz base' w v l := by
  have hlt := h.lt
  rcases h.2 with ⟨rfl, h0⟩ | ⟨g, cap, cur, rfl, hbg, hg, hle, hcm, _⟩
  · have : l = [] := List.eq_nil_of_length_eq_zero h0
    subst this
    exact OwnR.nil _ _
  · refine ⟨⟨Nat.le_trans hle hcm, some ⟨g, 0, none⟩, cap, rfl, .inr ⟨g, 0, rfl, fun i hi j u hu => ?_⟩⟩, fun k hk => ⟨hb k hk, (hlt k hk).2⟩, fun b o n c hv j hj => ?_⟩
    · have hlt : i * sz + j < l.length * sz := by
        have h1 : j < (f l[i]).length := (List.getElem?_eq_some_iff.1 hu).1
        rw [hf] at h1
        have h2 : (i + 1) * sz ≤ l.length * sz := Nat.mul_le_mul_right _ hi
        rw [Nat.add_mul] at h2
        omega
      rw [Nat.zero_add]
      exact (h.cellAt (i * sz + j) hlt).trans (rowR_at f sz hf l i hi j u hu)
    · injection hv with e1 e2 e3
      injection e1 with e1
      injection e1 with e1 e4
      subst e1 e4
      exact block_free hg _
theorem OwnR.below {w w' : World} {base : Nat} {v : Value} {l : List α} (h : OwnR f sz base w v l) (t : Below w.heap.size w w') : OwnR f sz base w' v l := by
  obtain ⟨h1, h2, h3⟩ := h
  refine ⟨h1.below t, fun k hk => ⟨(h2 k hk).1, Nat.lt_of_lt_of_le (h2 k hk).2 t.size⟩, fun b o n c hv j hj => ?_⟩
  have hb := (h2 b (by rw [hv]; rfl)).2
  exact (t.frozen (p := ⟨b, o + j, none⟩) hb).trans (h3 b o n c hv j hj)
theorem OwnR.mono {w : World} {base base' : Nat} {v : Value} {l : List α} (h : OwnR f sz base w v l) (hb : base' ≤ base) : OwnR f sz base' w v l := ⟨h.1, fun k hk => ⟨Nat.le_trans hb (h.2.1 k hk).1, (h.2.1 k hk).2⟩, h.2.2⟩
end
end Go.Proofs.Ytlkfpeefjpmmfaa

namespace Go.Proofs.Ytlkfpeefjpmmfaa
open Go.RowKit
set_option linter.unusedVariables false

def JobS.cells (j : JobS) : List Value := [.int .i64 j.id, .int .i64 j.step, .bool j.undo, .int .i64 j.tryN]
def JobS.val' (j : JobS) : Value := .agg #[.int .i64 j.id, .int .i64 j.step, .bool j.undo, .int .i64 j.tryN]
def ClkS.cells (c : ClkS) : List Value := [.int .i64 c.id, .int .i64 c.step, .int .i64 c.tick]
theorem JobS.len (j : JobS) : j.cells.length = 4 := rfl
theorem ClkS.len (c : ClkS) : c.cells.length = 3 := rfl
theorem JobS.one (x : JobS) : ∀ u ∈ x.cells, u.oneCell' = true := by
  intro u hu
  simp [JobS.cells] at hu
  rcases hu with rfl | rfl | rfl | rfl <;> rfl
theorem ClkS.one (x : ClkS) : ∀ u ∈ x.cells, u.oneCell' = true := by
  intro u hu
  simp [ClkS.cells] at hu
  rcases hu with rfl | rfl | rfl <;> rfl
abbrev ReadJ (w : World) (v : Value) (l : List JobS) : Prop := ReadR JobS.cells 4 w v l
abbrev ReadC (w : World) (v : Value) (l : List ClkS) : Prop := ReadR ClkS.cells 3 w v l

theorem stepIs_at {p : ProgS} {i k : Int} {n : Nat} (hi : i = (n : Int)) (h : n < p.steps.length) : stepIs p i k = decide (p.steps[n].kind = k) := by
  unfold stepIs
  subst hi
  rw [Int.toNat_natCast, List.getElem?_eq_getElem h]
  simp
theorem stepIs_not {p : ProgS} {i k : Int} (h : i < 0 ∨ (p.steps.length : Int) ≤ i) : stepIs p i k = false := by
  unfold stepIs
  cases hg : p.steps[i.toNat]? with
  | none => rfl
  | some x =>
    have := (List.getElem?_eq_some_iff.1 hg).1
    simp only [Bool.and_eq_false_iff, decide_eq_false_iff_not]
    omega
theorem stepAt_at {p : ProgS} {i : Int} {n : Nat} (hi : i = (n : Int)) (h : n < p.steps.length) : stepAt p i = p.steps[n] := by
  unfold stepAt
  subst hi
  simp [List.getD, List.getElem?_eq_getElem h]

set_option maxHeartbeats 1000000 in
set_option maxRecDepth 100000 in
theorem rkind_any {w : World} {a : Option Addr} {c : Nat} (p : ProgS) (h : ReadG w (.slice a p.steps.length c) p.steps) (i k : Int) (hi : 0 ≤ i) :
    Calls Try.prog 47 #[p.val' a c, .int .i64 i, .int .i64 k] w fun e w' => e = .returned (.bool (stepIs p i k)) ∧ Below w.heap.size w w' := by
  obtain ⟨n, rfl⟩ := Int.eq_ofNat_of_zero_le hi
  have hml : p.steps.length ≤ 9223372036854775807 := by have := h.1; unfold maxLen at this; omega
  have hb0 : Below w.heap.size w (w.alloc (.cells #[.slice a p.steps.length c, .int .i64 p.limit] 26)) := (Below.refl _ w).alloc (Nat.le_refl _) _
  have HB := Lib.hid hb0
  have H := Lib.hid (h.below hb0)
  have hnw := heap_alloc_new w (.cells #[.slice a p.steps.length c, .int .i64 p.limit] 26)
  have c0 := (block_cell hnw 0).trans rfl
  by_cases hlt : n < p.steps.length
  · obtain ⟨b, o, rfl, q0, -, -, -, -, -, -, -⟩ := H.out.at hlt
    have HI := Lib.hid (stepIs_at (p := p) (k := k) rfl hlt)
    have hd : (p.steps[n].kind == k) = decide (p.steps[n].kind = k) := rfl
    have e1 : (n : Int) < (p.steps.length : Int) := by omega
    unfold ProgS.val'
    generalize stepIs p (n : Int) k = S at *
    generalize p.steps[n] = x at *
    generalize p.steps.length = L at *
    clear h hnw hb0
    go_enter Try.func47, Try.ntmps47
    go_wp2
    go_ret
    exact ⟨by rw [HI.out]; rfl, HB.out⟩
  · have HI := Lib.hid (stepIs_not (p := p) (i := (n : Int)) (k := k) (.inr (by omega)))
    have e1 : ¬ (n : Int) < (p.steps.length : Int) := by omega
    unfold ProgS.val'
    generalize stepIs p (n : Int) k = S at *
    generalize p.steps.length = L at *
    clear h hnw hb0
    go_enter Try.func47, Try.ntmps47
    go_wp2
    go_ret
    exact ⟨by rw [HI.out]; rfl, HB.out⟩

set_option maxHeartbeats 2000000 in
set_option maxRecDepth 100000 in
theorem rtries_any {w : World} {a : Option Addr} {c : Nat} (p : ProgS) (j : JobS) (h : ReadG w (.slice a p.steps.length c) p.steps) :
    Calls Try.prog 74 #[p.val' a c, j.val'] w fun e w' => e = .returned (.int .i64 (triesS p j)) ∧ Below w.heap.size w w' := by
  obtain ⟨id, step, undo, tryN⟩ := j
  have hml : p.steps.length ≤ 9223372036854775807 := by have := h.1; unfold maxLen at this; omega
  obtain ⟨w1, hw1⟩ : ∃ w1, w.alloc (.cells #[.slice a p.steps.length c, .int .i64 p.limit] 26) = w1 := ⟨_, rfl⟩
  have hb1 : Below w.heap.size w w1 := by rw [← hw1]; exact (Below.refl _ w).alloc (Nat.le_refl _) _
  have hs1 : w1.heap.size = w.heap.size + 1 := by rw [← hw1]; simp
  have hn1 : w1.heap[w.heap.size]? = some (.cells #[.slice a p.steps.length c, .int .i64 p.limit] 26 (0, 0)) := by rw [← hw1]; exact heap_alloc_new _ _
  obtain ⟨w2, hw2⟩ : ∃ w2, w1.alloc (.cells #[.int .i64 id, .int .i64 step, .bool undo, .int .i64 tryN] 49) = w2 := ⟨_, rfl⟩
  have hb2 : Below w1.heap.size w1 w2 := by rw [← hw2]; exact (Below.refl _ w1).alloc (Nat.le_refl _) _
  have hn2 : w2.heap[w1.heap.size]? = some (.cells #[.int .i64 id, .int .i64 step, .bool undo, .int .i64 tryN] 49 (0, 0)) := by rw [← hw2]; exact heap_alloc_new _ _
  have hn1' := (hb2.block _ (by omega)).trans hn1
  have HB := Lib.hid (hb1.trans (hb2.mono hb1.size))
  have H := Lib.hid (h.below HB.out)
  have c0 := (block_cell hn1' 0).trans rfl
  have d1 := (block_cell hn2 1).trans rfl
  have d2 := (block_cell hn2 2).trans rfl
  unfold ProgS.val' JobS.val'
  by_cases hlo : step < 0
  · have HI : Hid (triesS p ⟨id, step, undo, tryN⟩ = 0) := by show _ = _; unfold triesS; simp only; rw [stepIs_not (.inl hlo)]; rfl
    generalize triesS p ⟨id, step, undo, tryN⟩ = S at *
    clear hs1 h hn1 hn2 hn1' hb1 hb2
    go_enter Try.func74, Try.ntmps74
    go_wp2
    go_ret
    exact ⟨by rw [HI.out]; rfl, HB.out⟩
  · obtain ⟨n, rfl⟩ := Int.eq_ofNat_of_zero_le (show 0 ≤ step by omega)
    clear hlo
    by_cases hlt : n < p.steps.length
    · obtain ⟨b, o, rfl, q0, -, -, q3, q4, -, -, -⟩ := H.out.at hlt
      have e1 : ¬ (p.steps.length : Int) ≤ (n : Int) := by omega
      have e0 : ¬ (n : Int) < 0 := by omega
      have HI := stepIs_at (p := p) (k := 1) (i := (n : Int)) rfl hlt
      have HA := stepAt_at (p := p) (i := (n : Int)) rfl hlt
      by_cases hk : p.steps[n].kind = 1
      · have HI2 : Hid (triesS p ⟨id, (n : Int), undo, tryN⟩ = if undo then p.steps[n].undoTries else p.steps[n].tries) := by
          show _ = _
          unfold triesS
          simp only
          rw [HI, HA, decide_eq_true hk, if_pos rfl]
        have g1 : (p.steps[n].kind != 1) = false := by simp [hk]
        generalize triesS p ⟨id, (n : Int), undo, tryN⟩ = S at *
        clear hs1 h hn1 hn2 hn1' hb1 hb2 HI HA hk
        generalize p.steps[n] = x at *
        generalize p.steps.length = L at *
        cases undo with
        | true =>
          have HI3 : Hid (S = x.undoTries) := HI2.out
          go_enter Try.func74, Try.ntmps74
          go_wp2
          go_ret
          exact ⟨by rw [HI3.out]; rfl, HB.out⟩
        | false =>
          have HI3 : Hid (S = x.tries) := HI2.out
          go_enter Try.func74, Try.ntmps74
          go_wp2
          go_ret
          exact ⟨by rw [HI3.out]; rfl, HB.out⟩
      · have HI2 : Hid (triesS p ⟨id, (n : Int), undo, tryN⟩ = 0) := by
          show _ = _
          unfold triesS
          simp only
          rw [HI, decide_eq_false hk]
          rfl
        have g1 : (p.steps[n].kind != 1) = true := by simp [hk]
        generalize triesS p ⟨id, (n : Int), undo, tryN⟩ = S at *
        clear hs1 h hn1 hn2 hn1' hb1 hb2 HI HA hk
        generalize p.steps[n] = x at *
        generalize p.steps.length = L at *
        go_enter Try.func74, Try.ntmps74
        go_wp2
        go_ret
        exact ⟨by rw [HI2.out]; rfl, HB.out⟩
    · have e1 : (p.steps.length : Int) ≤ (n : Int) := by omega
      have e0 : ¬ (n : Int) < 0 := by omega
      have HI2 : Hid (triesS p ⟨id, (n : Int), undo, tryN⟩ = 0) := by show _ = _; unfold triesS; simp only; rw [stepIs_not (.inr e1)]; rfl
      generalize triesS p ⟨id, (n : Int), undo, tryN⟩ = S at *
      clear hs1 h hn1 hn2 hn1' hb1 hb2
      generalize p.steps.length = L at *
      go_enter Try.func74, Try.ntmps74
      go_wp2
      go_ret
      exact ⟨by rw [HI2.out]; rfl, HB.out⟩

/-- The program of a history whose first event is a valid start. -/
theorem progH_dec {l : List EvS} {x : EvS} (hl : l.head? = some x) (hx : evB x = true) (hk : x.kind = 1) {p : ProgS} {E : Nat} (h : DecEnd x.data p E) : p = progH l ∧ progB p = true := by
  have hd : dataB (shapeL x.kind) x.data = true := ((evB_iff x).1 hx).data
  rw [hk] at hd
  have hok : okB x.data.data.toList = true := hd
  obtain ⟨q, hq, he⟩ := (okB_iff _).1 hok
  unfold DecEnd at h
  rcases h with ⟨h1, h2, h3⟩ | ⟨h1, _⟩
  · have e : progH l = (rdProg x.data.data.toList).1 := by unfold progH; rw [hl]; rfl
    refine ⟨by rw [h2, e], ?_⟩
    rw [h2, (rd_is hq he).1]
    exact hq
  · rw [hok] at h1; cases h1
theorem OkH.head {l : List EvS} (h : OkH l) (hl : l ≠ []) : ∃ x, l.head? = some x ∧ evB x = true ∧ x.kind = 1 ∧ x.tick = beganH l := by
  induction h with
  | nil => exact (hl rfl).elim
  | @snoc l e h0 he ih =>
    by_cases hl0 : l = []
    · subst hl0
      obtain ⟨h1, h2, _⟩ := err_zero he
      exact ⟨e, rfl, h1, (h2 rfl).1, rfl⟩
    · obtain ⟨x, h1, h2, h3, h4⟩ := ih hl0
      cases l with
      | nil => exact (hl0 rfl).elim
      | cons y r => exact ⟨x, h1, h2, h3, h4⟩
theorem ReadG.other {w w' : World} {a : Option Addr} {c : Nat} {l : List StepS} {q : Nat} (h : ReadG w (.slice a l.length c) l) (ho : ∀ k, k ≠ q → w'.heap[k]? = w.heap[k]?) {u1 u2 : Value} {t : TypeId} (hq : w.heap[q]? = some (.cells #[u1, u2] t (0, 0))) (h2 : ∀ s, u2 ≠ .string s) : ReadG w' (.slice a l.length c) l := by
  have h0 := h
  obtain ⟨h1, h2', a', c', hv, h3⟩ := h
  refine ⟨h1, h2', a', c', hv, ?_⟩
  rcases h3 with h3 | ⟨b, o, rfl, h3⟩
  · exact .inl h3
  · by_cases hl : l = []
    · exact .inl hl
    · refine .inr ⟨b, o, rfl, fun i hi j u hu => ?_⟩
      have hne : b ≠ q := by
        intro e
        subst e
        have hp : 0 < l.length := List.length_pos_iff.2 hl
        have h4 := h3 0 hp 1 (.string l[0].name) rfl
        rw [block_cell hq] at h4
        have h5 : #[u1, u2][o + 0 * 6 + 1]? = some (.string l[0].name) := h4
        match o, h5 with
        | 0, h5 =>
          simp at h5
          exact h2 _ h5
        | o + 1, h5 => simp at h5
      exact (World.cell?_of_block (w := w) (ho b hne)).trans (h3 i hi j u hu)
set_option maxHeartbeats 2000000 in
set_option maxRecDepth 100000 in
theorem rprogram_any {w : World} {v : Value} {l : List EvS} (h : ReadE w v l) (ho : OkH l) (hl : l ≠ []) :
    Calls Try.prog 23 #[v] w fun e w' => ∃ a c, e = .returned ((progH l).val' a c) ∧ ReadG w' (.slice a (progH l).steps.length c) (progH l).steps ∧ Below w.heap.size w w' := by
  obtain ⟨x, hx, hev, hk, -⟩ := ho.head hl
  obtain ⟨va, vc, rfl⟩ := h.slice
  have hpos : 0 < l.length := List.length_pos_iff.2 hl
  have hml : l.length ≤ 9223372036854775807 := by have := h.1; unfold maxLen at this; omega
  have hx0 : l[0] = x := by
    cases l with
    | nil => exact (hl rfl).elim
    | cons y r => simpa using hx
  obtain ⟨w1, hw1⟩ : ∃ w1, w.alloc (.cells #[.slice none 0 0, .int .i64 0] 26) = w1 := ⟨_, rfl⟩
  have hb1 : Below w.heap.size w w1 := by rw [← hw1]; exact (Below.refl _ w).alloc (Nat.le_refl _) _
  have hs1 : w1.heap.size = w.heap.size + 1 := by rw [← hw1]; simp
  have hq1 : w1.heap[w.heap.size]? = some (.cells #[.slice none 0 0, .int .i64 0] 26 (0, 0)) := by rw [← hw1]; exact heap_alloc_new _ _
  obtain ⟨b, o, rfl, -, -, -, -, -, -, -, q7, s7⟩ := (h.below hb1).at hpos
  rw [hx0] at q7
  have hsz : x.data.size ≤ 140737488351232 := by
    have := dataB_size ((evB_iff x).1 hev).data
    omega
  have HDC := Lib.hid (rdecode_any x.data hsz w1)
  have HPR : Hid (∀ p E, DecEnd x.data p E → p = progH l ∧ progB p = true) := fun p E h => progH_dec hx hev hk h
  have H1 : Hid (w1.heap.size = w.heap.size + 1 ∧ Below w.heap.size w w1 ∧ w1.heap[w.heap.size]? = some (.cells #[.slice none 0 0, .int .i64 0] 26 (0, 0))) := ⟨hs1, hb1, hq1⟩
  generalize progH l = P at *
  clear h hb1 hs1 hq1 hx hx0
  go_enter Try.func23, Try.ntmps23
  go_wp2_with fail
  refine HDC.out.mono ?_
  rintro e w2 ⟨a, c, p, E, rfl, r2, hd, b2⟩
  obtain ⟨rfl, hp⟩ := HPR.out _ _ hd
  obtain ⟨e1, e2, e3⟩ := H1.out
  have B2 := Lib.hid (e2.trans (b2.mono e2.size))
  have R2 := Lib.hid r2
  have q2 := (b2.block _ (by omega)).trans e3
  have BL : Hid (w.heap.size < w2.heap.size) := by have := b2.size; show _ < _; omega
  clear hd b2 r2 hw1 H1 HDC HPR e1 e2 e3 hp
  unfold ProgS.val'
  have hnw := heap_alloc_new w2 (.cells #[.slice a p.steps.length c, .int .i64 p.limit] 26)
  have hb3 : Below w2.heap.size w2 (w2.alloc (.cells #[.slice a p.steps.length c, .int .i64 p.limit] 26)) := (Below.refl _ _).alloc (Nat.le_refl _) _
  have q3 := (hb3.block _ BL.out).trans q2
  have d0 := (block_cell hnw 0).trans rfl
  have d1 := (block_cell hnw 1).trans rfl
  have p0 := (block_cell q3 0).trans rfl
  have p1 := (block_cell q3 1).trans rfl
  have f0 := block_free q3 0
  have f1 := block_free q3 1
  have R3 := Lib.hid (R2.out.below hb3)
  have B3 := Lib.hid (B2.out.trans (hb3.mono B2.out.size))
  have Q3 := Lib.hid q3
  clear hnw hb3 q2 q3
  go_wp2
  (try simp only [Exit.inBlock, Exit.then])
  refine bodyPost_ret (v := .agg #[.slice a p.steps.length c, .int .i64 p.limit]) ?_ rfl ⟨a, c, rfl, ?_, ?_⟩
  · rw [results_cell14 rfl]
    go_simp
  · refine R3.out.other (q := w.heap.size) (fun k hk => ?_) Q3.out (fun s h => by cases h)
    rw [Below.heap_setCell _ _ _ _ (by first | exact hk | exact hk.symm), Below.heap_setCell _ _ _ _ (by first | exact hk | exact hk.symm)]
  · exact (B3.out.setCell (p := ⟨w.heap.size, 0, none⟩) (Nat.le_refl _) _).setCell (p := ⟨w.heap.size, 1, none⟩) (Nat.le_refl _) _
end Go.Proofs.Ytlkfpeefjpmmfaa

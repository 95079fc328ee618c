/- Layer 12: a program while it is read; the contract of the reference's Decode. -/
import Derived.Test.YtlkfpeefjpmmfaaJ09
import Derived.Test.YtlkfpeefjpmmfaaJ10
import Derived.Test.YtlkfpeefjpmmfaaW00b
import Derived.Test.YtlkfpeefjpmmfaaJ12
import Derived.Laws.ResultCell
import Derived.WalkArith
namespace Go.Proofs.Ytlkfpeefjpmmfaa
open Go.RowKit
set_option linter.unusedVariables false

def rowG (l : List StepS) : List Value := l.flatMap StepS.cells
theorem rowG_snoc (l : List StepS) (x : StepS) : rowG (l ++ [x]) = rowG l ++ x.cells := by simp [rowG]
theorem rowG_len (l : List StepS) : (rowG l).length = l.length * 6 := by
  induction l with
  | nil => rfl
  | cons p r ih =>
    have e : rowG (p :: r) = p.cells ++ rowG r := rfl
    rw [e, List.length_append, ih, List.length_cons]
    have : p.cells.length = 6 := rfl
    omega
theorem rowG_at : ∀ (l : List StepS) (i : Nat) (h : i < l.length) (j : Nat) (u : Value), l[i].cells[j]? = some u → (rowG l)[i * 6 + j]? = some u
  | x :: r, 0, _, j, u, hu => by
    have e : rowG (x :: r) = x.cells ++ rowG r := rfl
    have hj : j < x.cells.length := (List.getElem?_eq_some_iff.1 hu).1
    rw [e, Nat.zero_mul, Nat.zero_add, List.getElem?_append_left hj]
    exact hu
  | x :: r, i + 1, h, j, u, hu => by
    have e : rowG (x :: r) = x.cells ++ rowG r := rfl
    have hl : x.cells.length = 6 := rfl
    have ih := rowG_at r i (by simpa using h) j u (by simpa using hu)
    rw [e, List.getElem?_append_right (by omega), show (i + 1) * 6 + j - x.cells.length = i * 6 + j by omega]
    exact ih
theorem rowG_one (l : List StepS) : ∀ u ∈ rowG l, u.oneCell' = true := by
  intro u hu
  unfold rowG at hu
  obtain ⟨x, _, hx⟩ := List.mem_flatMap.1 hu
  simp [StepS.cells] at hx
  rcases hx with rfl | rfl | rfl | rfl | rfl | rfl <;> rfl
theorem StepS.one (x : StepS) : ∀ u ∈ x.cells, u.oneCell' = true := by
  intro u hu
  simp [StepS.cells] at hu
  rcases hu with rfl | rfl | rfl | rfl | rfl | rfl <;> rfl
theorem ReadG.own {w : World} {base : Nat} {v : Value} {l : List StepS} (h : w.ownsRow base 53 6 v l.length (rowG l)) (hz : ∀ x ∈ l, x.name.size ≤ maxLen ∧ x.undo.size ≤ maxLen) : ReadG w v l := by
  rcases h.2 with ⟨rfl, h0⟩ | ⟨g, cap, cur, rfl, _, hg, hle, hcm, _⟩
  · have : l = [] := List.eq_nil_of_length_eq_zero h0
    subst this
    exact ⟨by simp [maxLen], hz, none, 0, rfl, .inl rfl⟩
  · refine ⟨Nat.le_trans hle hcm, hz, some ⟨g, 0, none⟩, cap, rfl, .inr ⟨g, 0, rfl, fun i hi j u hu => ?_⟩⟩
    have hlt : i * 6 + j < l.length * 6 := by
      have : j < l[i].cells.length := (List.getElem?_eq_some_iff.1 hu).1
      have e : l[i].cells.length = 6 := rfl
      omega
    rw [Nat.zero_add]
    exact (h.cellAt (i * 6 + j) hlt).trans (rowG_at l i hi j u hu)
theorem infoStep : (Try.prog.info? 53).map (fun i => (i.zero, i.size, i.bytes)) = some (some (.agg #[.int .i64 0, .string ⟨#[]⟩, .string ⟨#[]⟩, .int .i64 0, .int .i64 0, .int .i64 0]), 6, 64) := by kernel_rfl

/-- A program while it is read: the reader, the program so far. -/
structure DecAt (w wr : World) (rb pb : Nat) (R : Option (List UInt8)) (v : Value) (l : List StepS) (lim : Int) : Prop where
  rd : RDE wr rb R
  pg : wr.heap[pb]? = some (.cells #[v, .int .i64 lim] 26 (0, 0))
  row : wr.ownsRow 0 53 6 v l.length (rowG l)
  blk : ∀ k, v.ownBlock = some k → pb < k
  ord : rb < pb ∧ w.heap.size < rb
  below : Below w.heap.size w wr
  res : wr.heap[w.heap.size]? = some (.cells #[.slice none 0 0, .int .i64 0] 26 (0, 0))
/-- .. beside the step that is read. -/
structure DecX (w wr : World) (rb pb xb : Nat) (R : Option (List UInt8)) (v : Value) (l : List StepS) (lim : Int) (cs : Array Value) : Prop where
  at' : DecAt w wr rb pb R v l lim
  x : wr.heap[xb]? = some (.cells cs 53 (0, 0))
  gt : pb < xb
  own : v.ownBlock ≠ some xb
theorem row_slice12 {w : World} {base : Nat} {t : TypeId} {sz : Nat} {v : Value} {n : Nat} {xs : List Value} (h : w.ownsRow base t sz v n xs) : ∃ a c, v = .slice a n c := by
  rcases h.2 with ⟨rfl, h0⟩ | ⟨g, cap, _, rfl, _⟩
  · subst h0; exact ⟨none, 0, rfl⟩
  · exact ⟨_, _, rfl⟩
section
variable {w wr w' : World} {rb pb xb : Nat} {R R' : Option (List UInt8)} {v : Value} {l : List StepS} {lim : Int} {cs : Array Value}
theorem DecAt.call (h : DecAt w wr rb pb R v l lim) (t : Left wr w' rb R') : DecAt w w' rb pb R' v l lim :=
  ⟨t.1, (t.2.block pb (block_lt h.pg) (by have := h.ord; simp; omega)).trans h.pg, h.row.kept t.2 (.inr (fun e => by have := h.blk rb e; have := h.ord; omega)), h.blk, h.ord, h.below.trans (t.below h.below.size (Nat.le_of_lt h.ord.2)), (t.2.block _ (block_lt h.res) (by have := h.ord; simp; omega)).trans h.res⟩
theorem DecAt.alloc (h : DecAt w wr rb pb R v l lim) (o : Obj) : DecAt w (wr.alloc o) rb pb R v l lim :=
  have b := (Below.refl wr.heap.size wr).alloc (Nat.le_refl _) o
  ⟨h.rd.below b, (b.block pb (block_lt h.pg)).trans h.pg, ownsRow_below h.row b, h.blk, h.ord, h.below.trans (b.mono h.below.size), (b.block _ (block_lt h.res)).trans h.res⟩
theorem DecAt.later (h : DecAt w wr rb pb R v l lim) (b : Below wr.heap.size wr w') : DecAt w w' rb pb R v l lim :=
  ⟨h.rd.below b, (b.block pb (block_lt h.pg)).trans h.pg, ownsRow_below h.row b, h.blk, h.ord, h.below.trans (b.mono h.below.size), (b.block _ (block_lt h.res)).trans h.res⟩
/-- Behind the result's two cells being set. -/
theorem DecAt.ends (h : DecAt w wr rb pb R v l lim) (hz : ∀ x ∈ l, x.name.size ≤ maxLen ∧ x.undo.size ≤ maxLen) (u1 u2 : Value) :
    ReadG ((wr.setCell ⟨w.heap.size, 0, none⟩ u1).setCell ⟨w.heap.size, 1, none⟩ u2) v l ∧ Below w.heap.size w ((wr.setCell ⟨w.heap.size, 0, none⟩ u1).setCell ⟨w.heap.size, 1, none⟩ u2) := by
  have hne : some w.heap.size ≠ v.ownBlock := fun e => by have := h.blk _ e.symm; have := h.ord; omega
  refine ⟨ReadG.own ((h.row.kept (grownBy_set wr ⟨w.heap.size, 0, none⟩ u1) (.inr hne.symm)).kept (grownBy_set _ ⟨w.heap.size, 1, none⟩ u2) (.inr hne.symm)) hz, (h.below.setCell (p := ⟨w.heap.size, 0, none⟩) (Nat.le_refl _) u1).setCell (p := ⟨w.heap.size, 1, none⟩) (Nat.le_refl _) u2⟩
theorem DecAt.box (h : DecAt w wr rb pb R v l lim) (cs : Array Value) : DecX w (wr.alloc (.cells cs 53)) rb pb wr.heap.size R v l lim cs :=
  ⟨h.alloc _, heap_alloc_new _ _, block_lt h.pg, fun e => by have := (h.row.lt _ e).2; omega⟩
theorem DecAt.setLim (h : DecAt w wr rb pb R v l lim) (n : Int) : DecAt w (wr.setCell ⟨pb, 1, none⟩ (.int .i64 n)) rb pb R v l n := by
  have ho := h.ord
  have hb : ∀ k, k ≠ pb → (wr.setCell ⟨pb, 1, none⟩ (.int .i64 n)).heap[k]? = wr.heap[k]? := fun k e => Below.heap_setCell _ _ _ _ (fun e2 => e (by first | exact e2 | exact e2.symm))
  exact ⟨h.rd.block (hb rb (by omega)), block_set h.pg 1 _, h.row.kept (grownBy_set wr ⟨pb, 1, none⟩ _) (.inr (fun e => by have := h.blk pb e; omega)), h.blk, ho, h.below.setCell (p := ⟨pb, 1, none⟩) (by simp only; omega) _, (hb _ (by omega)).trans h.res⟩
theorem DecAt.add {w4 : World} {v' : Value} {x : StepS} (h : DecAt w wr rb pb R v l lim) (hg : wr.grownBy w4 v.ownBlock) (ho : w4.ownsRow 0 53 6 v' (l.length + 1) (rowG l ++ x.cells)) (hv : ∀ k, v'.ownBlock = some k → v.ownBlock = some k ∨ wr.heap.size ≤ k) :
    DecAt w (w4.setCell ⟨pb, 0, none⟩ v') rb pb R v' (l ++ [x]) lim := by
  have hor := h.ord
  have hpl := block_lt h.pg
  have hne : ∀ k, v.ownBlock = some k → k ≠ rb ∧ k ≠ pb := fun k hk => by have := h.blk k hk; omega
  have hv2 : ∀ k, v'.ownBlock = some k → pb < k := fun k hk => by
    rcases hv k hk with e | e
    · exact h.blk k e
    · omega
  have hb : ∀ k, k ≠ pb → (w4.setCell ⟨pb, 0, none⟩ v').heap[k]? = w4.heap[k]? := fun k e => Below.heap_setCell _ _ _ _ (fun e2 => e (by first | exact e2 | exact e2.symm))
  have hp4 : w4.heap[pb]? = some (.cells #[v, .int .i64 lim] 26 (0, 0)) := (hg.block pb hpl (fun e => (hne pb e.symm).2 rfl)).trans h.pg
  refine ⟨(h.rd.kept hg (fun e => (hne rb e.symm).1 rfl)).block (hb rb (by omega)), block_set hp4 0 _, ?_, hv2, hor, (h.below.grown hg h.below.size (fun k hk => by have := h.blk k hk; omega)).setCell (p := ⟨pb, 0, none⟩) (by simp only; omega) _, (hb _ (by omega)).trans ((hg.block _ (block_lt h.res) (fun e => by have := h.blk _ e.symm; omega)).trans h.res)⟩
  rw [List.length_append, rowG_snoc]
  exact ho.kept (grownBy_set w4 ⟨pb, 0, none⟩ _) (.inr (fun e => by have := hv2 pb e; omega))
theorem DecX.call (h : DecX w wr rb pb xb R v l lim cs) (t : Left wr w' rb R') : DecX w w' rb pb xb R' v l lim cs :=
  ⟨h.at'.call t, (t.2.block xb (block_lt h.x) (by have := h.at'.ord; have := h.gt; simp; omega)).trans h.x, h.gt, h.own⟩
theorem DecX.store (h : DecX w wr rb pb xb R v l lim cs) (i : Nat) (u : Value) : DecX w (wr.setCell ⟨xb, i, none⟩ u) rb pb xb R v l lim (cs.setIfInBounds i u) := by
  have ho := h.at'.ord
  have hg := h.gt
  have hb : ∀ k, k ≠ xb → (wr.setCell ⟨xb, i, none⟩ u).heap[k]? = wr.heap[k]? := fun k e => Below.heap_setCell _ _ _ _ (fun e2 => e (by first | exact e2 | exact e2.symm))
  have hgr := grownBy_set wr ⟨xb, i, none⟩ u
  refine ⟨⟨h.at'.rd.block (hb rb (by omega)), (hb pb (by omega)).trans h.at'.pg, h.at'.row.kept hgr (.inr h.own), h.at'.blk, h.at'.ord, h.at'.below.setCell (p := ⟨xb, i, none⟩) (by simp only; omega) u, (hb _ (by omega)).trans h.at'.res⟩, block_set h.x i u, h.gt, h.own⟩
theorem DecX.cell (h : DecX w wr rb pb xb R v l lim cs) (i : Nat) : wr.cell? ⟨xb, i, none⟩ = cs[i]? := block_cell h.x i
theorem DecX.free (h : DecX w wr rb pb xb R v l lim cs) (i : Nat) : wr.frozen? ⟨xb, i, none⟩ = false := block_free h.x i
end
theorem textS_len (R : List UInt8) : (textS (some R)).1.length ≤ R.length ∧ ∀ r, (textS (some R)).2 = some r → r.length ≤ R.length := by
  cases hg : getL R with
  | none => simp [textS, hg]
  | some nk =>
    obtain ⟨n, k⟩ := nk
    by_cases hn : n ≤ (R.drop k).length
    · have e : textS (some R) = ((R.drop k).take n, some ((R.drop k).drop n)) := by simp only [textS, hg, if_pos hn]
      rw [e]
      refine ⟨by simp only [List.length_take, List.length_drop]; omega, fun r hr => ?_⟩
      simp only [Option.some.injEq] at hr
      rw [← hr]
      simp only [List.length_drop]
      omega
    · have e : textS (some R) = ([], none) := by simp only [textS, hg, if_neg hn]
      rw [e]
      exact ⟨Nat.zero_le _, fun r hr => by cases hr⟩
theorem intS_len (m : Int) (R : List UInt8) : ∀ r, (intS m (some R)).2 = some r → r.length ≤ R.length := by
  intro r hr
  unfold intS at hr
  split at hr
  · cases hr
  · cases hg : getL R with
    | none => simp only [numS, hg] at hr; cases hr
    | some nk =>
      obtain ⟨n, k⟩ := nk
      by_cases hn : n ≤ m.toNat
      · simp only [numS, hg, if_pos hn, Option.some.injEq] at hr
        rw [← hr, List.length_drop]
        omega
      · simp only [numS, hg, if_neg hn] at hr
        cases hr
/-- A reader that has at most N bytes left. -/
def Most (N : Nat) (R : Option (List UInt8)) : Prop := ∀ r, R = some r → r.length ≤ N
theorem Most.int {N : Nat} {R : Option (List UInt8)} (h : Most N R) (m : Int) : Most N (intS m R).2 := by
  cases R with
  | none => intro r hr; unfold intS numS at hr; split at hr <;> cases hr
  | some l => exact fun r hr => Nat.le_trans (intS_len m l r hr) (h l rfl)
theorem Most.text {N : Nat} {R : Option (List UInt8)} (h : Most N R) : Most N (textS R).2 ∧ (textS R).1.length ≤ N := by
  cases R with
  | none => exact ⟨fun r hr => (by cases hr), by simp [textS]⟩
  | some l => exact ⟨fun r hr => Nat.le_trans ((textS_len l).2 r hr) (h l rfl), Nat.le_trans (textS_len l).1 (h l rfl)⟩
def FitG (N : Nat) (x : StepS) : Prop := x.name.size ≤ N ∧ x.undo.size ≤ N
theorem Most.step {N : Nat} {R : Option (List UInt8)} (h : Most N R) : Most N (rdStep R).2 ∧ FitG N (rdStep R).1 := by
  have z : ∀ l : List UInt8, (⟨l.toArray⟩ : ByteArray).size = l.length := fun l => by show l.toArray.size = _; simp
  have z0 : (⟨#[]⟩ : ByteArray).size = 0 := rfl
  unfold rdStep FitG
  simp only
  split
  · have a := (h.int 9).text
    have b := (a.1.int 9).text
    exact ⟨b.1.int 9, by rw [z]; exact a.2, by rw [z]; exact b.2⟩
  · split
    · exact ⟨(h.int 9).int 9999, by rw [z0]; omega, by rw [z0]; omega⟩
    · have a := (h.int 9).text
      exact ⟨a.1, by rw [z]; exact a.2, by rw [z0]; omega⟩
theorem Most.steps {N : Nat} {R : Option (List UInt8)} (h : Most N R) : ∀ n, Most N (rdSteps R n).2 ∧ ∀ x ∈ (rdSteps R n).1, FitG N x
  | 0 => ⟨h, fun x hx => by cases hx⟩
  | n + 1 => by
    have ih := Most.steps h n
    have s := ih.1.step
    refine ⟨s.1, fun x hx => ?_⟩
    rcases List.mem_append.1 hx with hx | hx
    · exact ih.2 x hx
    · rw [List.mem_singleton.1 hx]; exact s.2
end Go.Proofs.Ytlkfpeefjpmmfaa

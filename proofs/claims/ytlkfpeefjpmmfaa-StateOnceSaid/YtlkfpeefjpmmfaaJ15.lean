/- Joined: R13b R12d R13d. -/
import Derived.Test.YtlkfpeefjpmmfaaJ09
import Derived.Test.YtlkfpeefjpmmfaaR12g
import Derived.Test.YtlkfpeefjpmmfaaJ07
import Derived.Laws.StructEq
import Derived.Deep.QuietTactic
import Derived.BigQuiet

namespace Go.Proofs.Ytlkfpeefjpmmfaa
open Go.RowKit
set_option linter.unusedVariables false

def EvS.cells (e : EvS) : List Value := [.int .i64 e.id, .int .i64 e.kind, .int .i64 e.tick, .int .i64 e.ref, .int .i64 e.step, .int .i64 e.tryN, .bool e.undo, .string e.data]
def EvS.val' (e : EvS) : Value := .agg #[.int .i64 e.id, .int .i64 e.kind, .int .i64 e.tick, .int .i64 e.ref, .int .i64 e.step, .int .i64 e.tryN, .bool e.undo, .string e.data]
theorem okB_end {s : ByteArray} {p : ProgS} {E : Nat} (h : DecEnd s p E) : ((E : Int) == 0) = okB s.data.toList := by
  rcases h with ⟨h1, _, rfl⟩ | ⟨h1, _, rfl⟩ <;> rw [h1] <;> rfl
theorem bx_list (f : List UInt8) : (bx f).toList = f := Lib.toList_data _
theorem inB_no {n low high : Int} (h : n < low ∨ high < n) : inB n low high = false := by
  cases hb : inB n low high with
  | false => rfl
  | true => have := inB_iff.1 hb; omega
theorem inB_yes {n low high : Int} (h : low ≤ n ∧ n ≤ high) : inB n low high = true := inB_iff.2 h
theorem dataB_empty {f : List UInt8} (s : ByteArray) (h1 : ((bx f).toList == [112]) = false) (h2 : ((bx f).toList == [110]) = false) : dataB f s = s.toList.isEmpty := by
  rw [bx_list] at h1 h2
  unfold dataB
  rw [if_neg (by simpa using h1), if_neg (by simpa using h2), empty_dec]
  simp []
theorem undoF_yes {f : List UInt8} (u : Bool) (h : (!(bx f).toList == [115, 117]) = false) : undoF f u = true := by
  rw [bx_list] at h
  have : f = [115, 117] := by simpa using h
  simp [undoF, this]
theorem bx_is (f g : List UInt8) : decide ((bx f).toList = g) = decide (f = g) := by rw [Lib.toList_data]; rfl

set_option maxHeartbeats 4000000 in
set_option maxRecDepth 100000 in
theorem rright13_any (e : EvS) (hd : e.data.size ≤ 140737488351232) (w : World) :
    Calls Try.prog 20 #[e.val'] w fun x w' => x = .returned (.bool (evB e)) ∧ Below w.heap.size w w' := by
  obtain ⟨id, kind, tick, ref, step, tryN, undo, data⟩ := e
  have HEV : Hid (evB ⟨id, kind, tick, ref, step, tryN, undo, data⟩ = (inB kind 1 18 && inB id 1 500 && inB tick 0 1099511627776 && (fieldB (shapeL kind) 114 ref 1 (id - 1) && fieldB (shapeL kind) 115 step 0 15 && fieldB (shapeL kind) 116 tryN 1 5 && undoF (shapeL kind) undo && dataB (shapeL kind) data))) := rfl
  generalize evB ⟨id, kind, tick, ref, step, tryN, undo, data⟩ = EB at *
  obtain ⟨w0, hw0⟩ : ∃ w0, w.alloc (.cells #[.int .i64 id, .int .i64 kind, .int .i64 tick, .int .i64 ref, .int .i64 step, .int .i64 tryN, .bool undo, .string data] 39) = w0 := ⟨_, rfl⟩
  have hb0 : Below w.heap.size w w0 := by rw [← hw0]; exact (Below.refl _ w).alloc (Nat.le_refl _) _
  have hnw : w0.heap[w.heap.size]? = some (.cells #[.int .i64 id, .int .i64 kind, .int .i64 tick, .int .i64 ref, .int .i64 step, .int .i64 tryN, .bool undo, .string data] 39 (0, 0)) := by rw [← hw0]; exact heap_alloc_new _ _
  unfold EvS.val'
  simp only
  have HB := Lib.hid hb0
  have SX : Hid (∀ w', Below w0.heap.size w0 w' → w'.cell? ⟨w.heap.size, 0, none⟩ = some (.int .i64 id) ∧ w'.cell? ⟨w.heap.size, 1, none⟩ = some (.int .i64 kind) ∧ w'.cell? ⟨w.heap.size, 2, none⟩ = some (.int .i64 tick) ∧ w'.cell? ⟨w.heap.size, 3, none⟩ = some (.int .i64 ref) ∧ w'.cell? ⟨w.heap.size, 4, none⟩ = some (.int .i64 step) ∧ w'.cell? ⟨w.heap.size, 5, none⟩ = some (.int .i64 tryN) ∧ w'.cell? ⟨w.heap.size, 6, none⟩ = some (.bool undo) ∧ w'.cell? ⟨w.heap.size, 7, none⟩ = some (.string data)) := fun w' t => by
    have e := (t.block _ (block_lt hnw)).trans hnw
    rw [block_cell e, block_cell e, block_cell e, block_cell e, block_cell e, block_cell e, block_cell e, block_cell e]
    exact ⟨rfl, rfl, rfl, rfl, rfl, rfl, rfl, rfl⟩
  obtain ⟨c0, c1, c2, c3, c4, c5, c6, c7⟩ := SX.out w0 (Below.refl _ _)
  have hfl := rfields_any kind w0
  generalize shapeL kind = f at *
  have hik : Hid (inB kind 1 18 = inB kind 1 18) := rfl
  generalize inB kind 1 18 = ik at *
  clear hb0 hnw
  go_enter Try.func20, Try.ntmps20
  go_wp2_with fail
  refine hfl.mono ?_
  rintro e w1 ⟨rfl, b1⟩
  clear c0 c1 c2 c3 c4 c5 c6 c7
  obtain ⟨c0, c1, c2, c3, c4, c5, c6, c7⟩ := SX.out w1 b1
  have B1 := Lib.hid (HB.out.trans (b1.mono HB.out.size))
  clear b1 hfl
  go_wp2_with (first
    | (go_at_call 44; refine (rin13_any _ _ _ _ _ _).mono ?_; rintro e w1 ⟨rfl, rfl⟩)
    | (go_at_call 46; refine (rnamed_any _ (by unfold maxLen; omega) _).mono ?_; rintro e w1 ⟨rfl, rfl⟩)
    | (go_at_call 45; refine (rdecode_any _ hd _).mono ?_; rintro e w2 ⟨aP, cP, pP, EP, rfl, hR, hE, b2⟩; have hE2 := okB_end hE; have B2 := Lib.hid (B1.out.trans (b2.mono B1.out.size)); clear hR hE b2; clear c0 c1 c2 c3 c4 c5 c6 c7; unfold ProgS.val'))
  all_goals go_ret
  all_goals rw [HEV.out]
  all_goals clear SX hw0 HEV
  all_goals refine ⟨?_, by repeat (first | exact B2.out | exact B1.out | apply Below.drew | (refine Below.alloc ?_ (by first | exact B2.out.size | exact B1.out.size) _) | (refine Below.setCell ?_ (by first | exact B2.out.size | exact B1.out.size) _))⟩
  all_goals try clear c0 c1 c2 c3 c4 c5 c6 c7
  all_goals refine congrArg (fun b => Ending.returned (Value.bool b)) ?_
  all_goals first
    | (rw [inB_no (n := id) (by omega)]; simp; done)
    | (rw [inB_no (n := tick) (by omega)]; simp; done)
    | (rw [dataB_empty data (by assumption) (by assumption), inB_yes (n := id) (by omega), inB_yes (n := tick) (by omega), undoF_yes undo (by assumption)]; simp [*]; done)
    | (rw [dataB_empty data (by assumption) (by assumption), inB_yes (n := id) (by omega), inB_yes (n := tick) (by omega)]; simp [*, undoF]; done)
    | (simp [*,  inB, dataB, undoF]; done)
    | (simp_all [bx_list, inB, dataB, undoF]; done)
end Go.Proofs.Ytlkfpeefjpmmfaa

namespace Go.Proofs.Ytlkfpeefjpmmfaa
open Go.RowKit
set_option linter.unusedVariables false

theorem toList_iff12 (a b : ByteArray) : (a.toList = b.toList) = (a = b) := by
  refine propext ⟨fun h => ?_, fun h => by rw [h]⟩
  rw [Lib.toList_data, Lib.toList_data] at h
  obtain ⟨⟨x⟩⟩ := a
  obtain ⟨⟨y⟩⟩ := b
  have h : x = y := h
  rw [h]

set_option maxRecDepth 100000 in
set_option maxHeartbeats 1000000 in
theorem step_equal (x y : StepS) (w : World) : (Op.equal 53 x.val' y.val').run Try.prog w = .ok (decide (x = y)) w := by
  obtain ⟨k1, n1, u1, t1, d1, w1⟩ := x
  obtain ⟨k2, n2, u2, t2, d2, w2⟩ := y
  show (Op.equalIn (9999 + 1) 53 _ _).run Try.prog w = _
  unfold StepS.val'
  rw [run_equalIn_struct w 9999 53 _ _ (by kernel_rfl) (by kernel_rfl)]
  go_simp
  simp only [toList_iff12]
  by_cases h1 : k1 = k2
  · by_cases h2 : n1 = n2
    · by_cases h3 : u1 = u2
      · by_cases h4 : t1 = t2
        · by_cases h5 : d1 = d2
          · by_cases h6 : w1 = w2 <;> simp [h1, h2, h3, h4, h5, h6]
          · simp [h1, h2, h3, h4, h5]
        · simp [h1, h2, h3, h4]
      · simp [h1, h2, h3]
    · simp [h1, h2]
  · simp [h1]
theorem step_neq (x y : StepS) (w : World) : (binOp BinOp.neq 53 x.val' y.val').run Try.prog w = .ok (.bool (!decide (x = y))) w := by
  have h := step_equal x y w
  unfold StepS.val' at h ⊢
  simp only [binOp]
  simp only [Sem.run_bind, h]
  rfl

def sameG (p q : ProgS) : Bool := decide (p.limit = q.limit) && decide (p.steps = q.steps)
theorem sameG_refl (p : ProgS) : sameG p p = true := by simp [sameG]
theorem sameG_iff (p q : ProgS) : sameG p q = true ↔ p = q := by
  obtain ⟨a, b⟩ := p
  obtain ⟨c, d⟩ := q
  simp only [sameG, Bool.and_eq_true, decide_eq_true_eq, ProgS.mk.injEq]
  exact ⟨fun h => ⟨h.2, h.1⟩, fun h => ⟨h.2, h.1⟩⟩

set_option maxHeartbeats 4000000 in
set_option maxRecDepth 100000 in
theorem rsame12_any {w : World} {a a' : Option Addr} {c c' : Nat} (p q : ProgS) (h : ReadG w (.slice a p.steps.length c) p.steps) (h' : ReadG w (.slice a' q.steps.length c') q.steps) :
    Calls Try.prog 18 #[p.val' a c, q.val' a' c'] w fun e w' => e = .returned (.bool (sameG p q)) ∧ Below w.heap.size w w' := by
  obtain ⟨l, lim⟩ := p
  obtain ⟨l', lim'⟩ := q
  have hml : l.length ≤ 9223372036854775807 := by have := h.1; unfold maxLen at this; omega
  have hml' : l'.length ≤ 9223372036854775807 := by have := h'.1; unfold maxLen at this; omega
  have HP : Hid (sameG ⟨l, lim⟩ ⟨l', lim'⟩ = (decide (lim = lim') && decide (l = l'))) := rfl
  generalize sameG ⟨l, lim⟩ ⟨l', lim'⟩ = PB at *
  obtain ⟨w1, hw1⟩ : ∃ w1, w.alloc (.cells #[.slice a l.length c, .int .i64 lim] 26) = w1 := ⟨_, rfl⟩
  obtain ⟨w2, hw2⟩ : ∃ w2, w1.alloc (.cells #[.slice a' l'.length c', .int .i64 lim'] 26) = w2 := ⟨_, rfl⟩
  have hs1 : w1.heap.size = w.heap.size + 1 := by rw [← hw1]; simp
  have hb01 : Below w.heap.size w w1 := by rw [← hw1]; exact (Below.refl _ w).alloc (Nat.le_refl _) _
  have hb12 : Below w1.heap.size w1 w2 := by rw [← hw2]; exact (Below.refl _ w1).alloc (Nat.le_refl _) _
  have hb0 : Below w.heap.size w w2 := hb01.trans (hb12.mono hb01.size)
  have hn1 : w2.heap[w.heap.size]? = some (.cells #[.slice a l.length c, .int .i64 lim] 26 (0, 0)) := by
    rw [hb12.block _ (by omega), ← hw1]; exact heap_alloc_new _ _
  have hn2 : w2.heap[w.heap.size + 1]? = some (.cells #[.slice a' l'.length c', .int .i64 lim'] 26 (0, 0)) := by
    rw [← hw2, ← hs1]; exact heap_alloc_new _ _
  have H := Lib.hid (h.below hb0)
  have H' := Lib.hid (h'.below hb0)
  have HB := Lib.hid hb0
  have HN1 := Lib.hid hn1
  have HN2 := Lib.hid hn2
  have c0 : w2.cell? ⟨w.heap.size, 0, none⟩ = some (.slice a l.length c) := by rw [block_cell hn1]; rfl
  have c1 : w2.cell? ⟨w.heap.size, 1, none⟩ = some (.int .i64 lim) := by rw [block_cell hn1]; rfl
  have d0 : w2.cell? ⟨w.heap.size + 1, 0, none⟩ = some (.slice a' l'.length c') := by rw [block_cell hn2]; rfl
  have d1 : w2.cell? ⟨w.heap.size + 1, 1, none⟩ = some (.int .i64 lim') := by rw [block_cell hn2]; rfl
  unfold ProgS.val'
  simp only
  clear h h' hb0 hb01 hb12 hn1 hn2
  go_enter Try.func18, Try.ntmps18
  by_cases hlim : lim = lim'
  · by_cases hlen : l.length = l'.length
    · have hg1 : (lim != lim') = false := by simp [hlim]
      have hg2 : ((l.length : Int) != (l'.length : Int)) = false := by simp [hlen]
      have HLN : Hid (l.length = l'.length) := hlen
      have HLM : Hid (lim = lim') := hlim
      clear hlen hlim
      go_wp2
      clear c1 d1 c0 d0
      go_loopw [5] (fun iv wr => ∃ i : Nat, i ≤ l.length ∧ iv = .int .i64 (i : Int) ∧ Hid (Below w2.heap.size w2 wr ∧ l.take i = l'.take i)) (fun iv _ => l.length - (intOf iv).toNat)
      case atStart => exact ⟨0, Nat.zero_le _, rfl, Below.refl _ _, rfl⟩
      case round =>
        obtain ⟨i, hi, rfl, HI⟩ := hrel
        have hn1 := (HI.out.1.block _ (block_lt HN1.out)).trans HN1.out
        have hn2 := (HI.out.1.block _ (block_lt HN2.out)).trans HN2.out
        have c0 : wr.cell? ⟨w.heap.size, 0, none⟩ = some (.slice a l.length c) := by rw [block_cell hn1]; rfl
        have d0 : wr.cell? ⟨w.heap.size + 1, 0, none⟩ = some (.slice a' l'.length c') := by rw [block_cell hn2]; rfl
        by_cases hlt : i < l.length
        · have hlt' : i < l'.length := by have := HLN.out; omega
          have hi1 : (0 : Int) ≤ (i : Int) := Int.natCast_nonneg _
          have hi2 : (i : Int) < (l.length : Int) := by omega
          have hi3 : (i : Int) < (l'.length : Int) := by omega
          obtain ⟨b, o, rfl, q0, q1, q2, q3, q4, q5, -, -⟩ := (H.out.below HI.out.1).at hlt
          obtain ⟨b', o', rfl, p0, p1, p2, p3, p4, p5, -, -⟩ := (H'.out.below HI.out.1).at hlt'
          have HT : Hid (l[i] = l'[i] → l.take (i + 1) = l'.take (i + 1)) := fun e => by
            rw [List.take_succ_eq_append_getElem hlt, List.take_succ_eq_append_getElem hlt', HI.out.2, e]
          have HN : Hid (l[i] ≠ l'[i] → decide (l = l') = false) := fun e => by
            rw [decide_eq_false_iff_not]
            intro e2
            subst e2
            exact e rfl
          have hmes : l.length - (intOf (.int .i64 ((i : Int) + 1))).toNat < l.length - (intOf (.int .i64 (i : Int))).toNat := by simp [intOf]; omega
          generalize l[i] = x at *
          generalize l'[i] = y at *
          have hne := step_neq x y
          unfold StepS.val' at hne
          by_cases hxy : x = y
          · have hd : decide (x = y) = true := decide_eq_true hxy
            rw [hd] at hne
            have HT2 := Lib.hid (HT.out hxy)
            clear hd hxy hn1 hn2
            go_wp2
            go_quiet (fail)
            have HB3 := Lib.hid (below_drewN HI.out.1 nq)
            go_wp2
            go_roundw
            case rel => exact ⟨i + 1, by omega, by go_num, HB3.out, HT2.out⟩
            case measure => exact hmes
          · have hd : decide (x = y) = false := decide_eq_false hxy
            rw [hd] at hne
            have HT2 := Lib.hid (HN.out hxy)
            clear hd hxy hn1 hn2
            go_wp2
            go_quiet (fail)
            have HB3 := Lib.hid (below_drewN HI.out.1 nq)
            go_wp2
            go_ret
            exact ⟨by rw [HP.out, HT2.out]; simp, HB.out.trans (HB3.out.mono HB.out.size)⟩
        · obtain rfl : i = l.length := by omega
          have HE : Hid (l = l') := by
            have := HI.out.2
            rwa [List.take_length, HLN.out, List.take_length] at this
          go_wp2
          go_ret
          exact ⟨by rw [HP.out]; congr 1; simp [HE.out, HLM.out], HB.out.trans (HI.out.1.mono HB.out.size)⟩
    · have hg1 : (lim != lim') = false := by simp [hlim]
      have hg2 : ((l.length : Int) != (l'.length : Int)) = true := by simp; omega
      have HE : Hid (decide (l = l') = false) := by
        show _ = _
        rw [decide_eq_false_iff_not]
        exact fun e => hlen (by rw [e])
      clear hlen hlim
      go_wp2
      go_ret
      exact ⟨by rw [HP.out, HE.out]; simp, HB.out⟩
  · have hg1 : (lim != lim') = true := by simp [hlim]
    have HE : Hid (decide (lim = lim') = false) := decide_eq_false hlim
    clear hlim
    go_wp2
    go_ret
    exact ⟨by rw [HP.out, HE.out]; simp, HB.out⟩
end Go.Proofs.Ytlkfpeefjpmmfaa

namespace Go.Proofs.Ytlkfpeefjpmmfaa
open Go.RowKit
set_option linter.unusedVariables false

/-- Events in a row that can be read. -/
def ReadE (w : World) (v : Value) (l : List EvS) : Prop :=
  l.length ≤ maxLen ∧ (∀ x ∈ l, x.data.size ≤ maxLen) ∧ ∃ a c, v = .slice a l.length c ∧ (l = [] ∨ ∃ b o, a = some ⟨b, o, none⟩ ∧ ∀ i (h : i < l.length), ∀ j u, l[i].cells[j]? = some u → w.cell? ⟨b, o + i * 8 + j, none⟩ = some u)
theorem ReadE.below {w w' : World} {v : Value} {l : List EvS} (h : ReadE w v l) (t : Below w.heap.size w w') : ReadE w' v l := by
  obtain ⟨h1, h2, a, c, rfl, h3⟩ := h
  refine ⟨h1, h2, a, c, rfl, ?_⟩
  rcases h3 with h3 | ⟨b, o, rfl, h3⟩
  · exact .inl h3
  · exact .inr ⟨b, o, rfl, fun i hi j u hu => (t.cell (World.block_lt_of_cell? w ⟨b, o + i * 8 + j, none⟩ (h3 i hi j u hu))).trans (h3 i hi j u hu)⟩
theorem ReadE.slice {w : World} {v : Value} {l : List EvS} (h : ReadE w v l) : ∃ a c, v = .slice a l.length c := by
  obtain ⟨_, _, a, c, h, _⟩ := h
  exact ⟨a, c, h⟩
theorem ReadE.at {w : World} {a : Option Addr} {n c : Nat} {l : List EvS} (h : ReadE w (.slice a n c) l) {i : Nat} (hi : i < l.length) :
    ∃ b o, a = some ⟨b, o, none⟩ ∧ w.cell? ⟨b, o + i * 8, none⟩ = some (.int .i64 l[i].id) ∧ w.cell? ⟨b, o + i * 8 + 1, none⟩ = some (.int .i64 l[i].kind) ∧ w.cell? ⟨b, o + i * 8 + 2, none⟩ = some (.int .i64 l[i].tick) ∧
      w.cell? ⟨b, o + i * 8 + 3, none⟩ = some (.int .i64 l[i].ref) ∧ w.cell? ⟨b, o + i * 8 + 4, none⟩ = some (.int .i64 l[i].step) ∧ w.cell? ⟨b, o + i * 8 + 5, none⟩ = some (.int .i64 l[i].tryN) ∧
      w.cell? ⟨b, o + i * 8 + 6, none⟩ = some (.bool l[i].undo) ∧ w.cell? ⟨b, o + i * 8 + 7, none⟩ = some (.string l[i].data) ∧ l[i].data.size ≤ maxLen := by
  obtain ⟨_, h2, a', c', hv, h3⟩ := h
  injection hv with e1 e2 e3
  subst e1
  rcases h3 with h3 | ⟨b, o, rfl, h3⟩
  · subst h3; simp at hi
  · have hs := h2 l[i] (List.getElem_mem hi)
    exact ⟨b, o, rfl, h3 i hi 0 _ rfl, h3 i hi 1 _ rfl, h3 i hi 2 _ rfl, h3 i hi 3 _ rfl, h3 i hi 4 _ rfl, h3 i hi 5 _ rfl, h3 i hi 6 _ rfl, h3 i hi 7 _ rfl, hs⟩

set_option maxRecDepth 100000 in
set_option maxHeartbeats 1000000 in
theorem ev_equal (x y : EvS) (w : World) : (Op.equal 39 x.val' y.val').run Try.prog w = .ok (decide (x = y)) w := by
  obtain ⟨k1, n1, u1, t1, d1, w1, z1, s1⟩ := x
  obtain ⟨k2, n2, u2, t2, d2, w2, z2, s2⟩ := y
  show (Op.equalIn (9999 + 1) 39 _ _).run Try.prog w = _
  unfold EvS.val'
  rw [run_equalIn_struct w 9999 39 _ _ (by kernel_rfl) (by kernel_rfl)]
  go_simp
  simp only [toList_iff12]
  by_cases h1 : k1 = k2
  · by_cases h2 : n1 = n2
    · by_cases h3 : u1 = u2
      · by_cases h4 : t1 = t2
        · by_cases h5 : d1 = d2
          · by_cases h6 : w1 = w2
            · by_cases h7 : z1 = z2
              · by_cases h8 : s1 = s2 <;> simp [h1, h2, h3, h4, h5, h6, h7, h8]
              · simp [h1, h2, h3, h4, h5, h6, h7]
            · simp [h1, h2, h3, h4, h5, h6]
          · simp [h1, h2, h3, h4, h5]
        · simp [h1, h2, h3, h4]
      · simp [h1, h2, h3]
    · simp [h1, h2]
  · simp [h1]
theorem ev_neq (x y : EvS) (w : World) : (binOp BinOp.neq 39 x.val' y.val').run Try.prog w = .ok (.bool (!decide (x = y))) w := by
  have h := ev_equal x y w
  unfold EvS.val' at h ⊢
  simp only [binOp]
  simp only [Sem.run_bind, h]
  rfl

end Go.Proofs.Ytlkfpeefjpmmfaa

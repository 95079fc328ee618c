/- Layer 12: the contract of the reference's Same. -/
import Derived.Test.YtefgnigbppfgfaaR12c
import Derived.Laws.StructEq
import Derived.Deep.QuietTactic
import Derived.BigQuiet
namespace Go.Proofs.Ytefgnigbppfgfaa
open Go.RowKit
set_option linter.unusedVariables false

theorem toList_iff12 (a b : ByteArray) : (a.toList = b.toList) = (a = b) := by
  refine propext ⟨fun h => ?_, fun h => by rw [h]⟩
  rw [Lib.toList_data, Lib.toList_data] at h
  obtain ⟨⟨x⟩⟩ := a
  obtain ⟨⟨y⟩⟩ := b
  have h : x = y := h
  rw [h]

set_option maxRecDepth 100000 in
set_option maxHeartbeats 1000000 in
theorem step_equal (x y : StepS) (w : World) : (Op.equal 40 x.val' y.val').run Try.prog w = .ok (decide (x = y)) w := by
  obtain ⟨k1, n1, u1, t1, d1, w1⟩ := x
  obtain ⟨k2, n2, u2, t2, d2, w2⟩ := y
  show (Op.equalIn (9999 + 1) 40 _ _).run Try.prog w = _
  unfold StepS.val'
  rw [run_equalIn_struct w 9999 40 _ _ (by kernel_rfl) (by kernel_rfl)]
  go_simp
  simp only [toList_iff12]
  by_cases h1 : k1 = k2
  · by_cases h2 : n1 = n2
    · by_cases h3 : u1 = u2
      · by_cases h4 : t1 = t2
        · by_cases h5 : d1 = d2
          · by_cases h6 : w1 = w2 <;> simp [h1, h2, h3, h4, h5, h6]
          · simp [h1, h2, h3, h4, h5]
        · simp [h1, h2, h3, h4]
      · simp [h1, h2, h3]
    · simp [h1, h2]
  · simp [h1]
theorem step_neq (x y : StepS) (w : World) : (binOp BinOp.neq 40 x.val' y.val').run Try.prog w = .ok (.bool (!decide (x = y))) w := by
  have h := step_equal x y w
  unfold StepS.val' at h ⊢
  simp only [binOp]
  simp only [Sem.run_bind, h]
  rfl

def sameG (p q : ProgS) : Bool := decide (p.limit = q.limit) && decide (p.steps = q.steps)
theorem sameG_refl (p : ProgS) : sameG p p = true := by simp [sameG]
theorem sameG_iff (p q : ProgS) : sameG p q = true ↔ p = q := by
  obtain ⟨a, b⟩ := p
  obtain ⟨c, d⟩ := q
  simp only [sameG, Bool.and_eq_true, decide_eq_true_eq, ProgS.mk.injEq]
  exact ⟨fun h => ⟨h.2, h.1⟩, fun h => ⟨h.2, h.1⟩⟩

set_option maxHeartbeats 4000000 in
set_option maxRecDepth 100000 in
theorem rsame12_any {w : World} {a a' : Option Addr} {c c' : Nat} (p q : ProgS) (h : ReadG w (.slice a p.steps.length c) p.steps) (h' : ReadG w (.slice a' q.steps.length c') q.steps) :
    Calls Try.prog 16 #[p.val' a c, q.val' a' c'] w fun e w' => e = .returned (.bool (sameG p q)) ∧ Below w.heap.size w w' := by
  obtain ⟨l, lim⟩ := p
  obtain ⟨l', lim'⟩ := q
  have hml : l.length ≤ 9223372036854775807 := by have := h.1; unfold maxLen at this; omega
  have hml' : l'.length ≤ 9223372036854775807 := by have := h'.1; unfold maxLen at this; omega
  have HP : Hid (sameG ⟨l, lim⟩ ⟨l', lim'⟩ = (decide (lim = lim') && decide (l = l'))) := rfl
  generalize sameG ⟨l, lim⟩ ⟨l', lim'⟩ = PB at *
  obtain ⟨w1, hw1⟩ : ∃ w1, w.alloc (.cells #[.slice a l.length c, .int .i64 lim] 24) = w1 := ⟨_, rfl⟩
  obtain ⟨w2, hw2⟩ : ∃ w2, w1.alloc (.cells #[.slice a' l'.length c', .int .i64 lim'] 24) = w2 := ⟨_, rfl⟩
  have hs1 : w1.heap.size = w.heap.size + 1 := by rw [← hw1]; simp
  have hb01 : Below w.heap.size w w1 := by rw [← hw1]; exact (Below.refl _ w).alloc (Nat.le_refl _) _
  have hb12 : Below w1.heap.size w1 w2 := by rw [← hw2]; exact (Below.refl _ w1).alloc (Nat.le_refl _) _
  have hb0 : Below w.heap.size w w2 := hb01.trans (hb12.mono hb01.size)
  have hn1 : w2.heap[w.heap.size]? = some (.cells #[.slice a l.length c, .int .i64 lim] 24 (0, 0)) := by
    rw [hb12.block _ (by omega), ← hw1]; exact heap_alloc_new _ _
  have hn2 : w2.heap[w.heap.size + 1]? = some (.cells #[.slice a' l'.length c', .int .i64 lim'] 24 (0, 0)) := by
    rw [← hw2, ← hs1]; exact heap_alloc_new _ _
  have H := Lib.hid (h.below hb0)
  have H' := Lib.hid (h'.below hb0)
  have HB := Lib.hid hb0
  have HN1 := Lib.hid hn1
  have HN2 := Lib.hid hn2
  have c0 : w2.cell? ⟨w.heap.size, 0, none⟩ = some (.slice a l.length c) := by rw [block_cell hn1]; rfl
  have c1 : w2.cell? ⟨w.heap.size, 1, none⟩ = some (.int .i64 lim) := by rw [block_cell hn1]; rfl
  have d0 : w2.cell? ⟨w.heap.size + 1, 0, none⟩ = some (.slice a' l'.length c') := by rw [block_cell hn2]; rfl
  have d1 : w2.cell? ⟨w.heap.size + 1, 1, none⟩ = some (.int .i64 lim') := by rw [block_cell hn2]; rfl
  unfold ProgS.val'
  simp only
  clear h h' hb0 hb01 hb12 hn1 hn2
  go_enter Try.func16, Try.ntmps16
  by_cases hlim : lim = lim'
  · by_cases hlen : l.length = l'.length
    · have hg1 : (lim != lim') = false := by simp [hlim]
      have hg2 : ((l.length : Int) != (l'.length : Int)) = false := by simp [hlen]
      have HLN : Hid (l.length = l'.length) := hlen
      have HLM : Hid (lim = lim') := hlim
      clear hlen hlim
      go_wp2
      clear c1 d1 c0 d0
      go_loopw [5] (fun iv wr => ∃ i : Nat, i ≤ l.length ∧ iv = .int .i64 (i : Int) ∧ Hid (Below w2.heap.size w2 wr ∧ l.take i = l'.take i)) (fun iv _ => l.length - (intOf iv).toNat)
      case atStart => exact ⟨0, Nat.zero_le _, rfl, Below.refl _ _, rfl⟩
      case round =>
        obtain ⟨i, hi, rfl, HI⟩ := hrel
        have hn1 := (HI.out.1.block _ (block_lt HN1.out)).trans HN1.out
        have hn2 := (HI.out.1.block _ (block_lt HN2.out)).trans HN2.out
        have c0 : wr.cell? ⟨w.heap.size, 0, none⟩ = some (.slice a l.length c) := by rw [block_cell hn1]; rfl
        have d0 : wr.cell? ⟨w.heap.size + 1, 0, none⟩ = some (.slice a' l'.length c') := by rw [block_cell hn2]; rfl
        by_cases hlt : i < l.length
        · have hlt' : i < l'.length := by have := HLN.out; omega
          have hi1 : (0 : Int) ≤ (i : Int) := Int.natCast_nonneg _
          have hi2 : (i : Int) < (l.length : Int) := by omega
          have hi3 : (i : Int) < (l'.length : Int) := by omega
          obtain ⟨b, o, rfl, q0, q1, q2, q3, q4, q5, -, -⟩ := (H.out.below HI.out.1).at hlt
          obtain ⟨b', o', rfl, p0, p1, p2, p3, p4, p5, -, -⟩ := (H'.out.below HI.out.1).at hlt'
          have HT : Hid (l[i] = l'[i] → l.take (i + 1) = l'.take (i + 1)) := fun e => by
            rw [List.take_succ_eq_append_getElem hlt, List.take_succ_eq_append_getElem hlt', HI.out.2, e]
          have HN : Hid (l[i] ≠ l'[i] → decide (l = l') = false) := fun e => by
            rw [decide_eq_false_iff_not]
            intro e2
            subst e2
            exact e rfl
          have hmes : l.length - (intOf (.int .i64 ((i : Int) + 1))).toNat < l.length - (intOf (.int .i64 (i : Int))).toNat := by simp [intOf]; omega
          generalize l[i] = x at *
          generalize l'[i] = y at *
          have hne := step_neq x y
          unfold StepS.val' at hne
          by_cases hxy : x = y
          · have hd : decide (x = y) = true := decide_eq_true hxy
            rw [hd] at hne
            have HT2 := Lib.hid (HT.out hxy)
            clear hd hxy hn1 hn2
            go_wp2
            go_quiet (fail)
            have HB3 := Lib.hid (below_drewN HI.out.1 nq)
            go_wp2
            go_roundw
            case rel => exact ⟨i + 1, by omega, by go_num, HB3.out, HT2.out⟩
            case measure => exact hmes
          · have hd : decide (x = y) = false := decide_eq_false hxy
            rw [hd] at hne
            have HT2 := Lib.hid (HN.out hxy)
            clear hd hxy hn1 hn2
            go_wp2
            go_quiet (fail)
            have HB3 := Lib.hid (below_drewN HI.out.1 nq)
            go_wp2
            go_ret
            exact ⟨by rw [HP.out, HT2.out]; simp, HB.out.trans (HB3.out.mono HB.out.size)⟩
        · obtain rfl : i = l.length := by omega
          have HE : Hid (l = l') := by
            have := HI.out.2
            rwa [List.take_length, HLN.out, List.take_length] at this
          go_wp2
          go_ret
          exact ⟨by rw [HP.out]; congr 1; simp [HE.out, HLM.out], HB.out.trans (HI.out.1.mono HB.out.size)⟩
    · have hg1 : (lim != lim') = false := by simp [hlim]
      have hg2 : ((l.length : Int) != (l'.length : Int)) = true := by simp; omega
      have HE : Hid (decide (l = l') = false) := by
        show _ = _
        rw [decide_eq_false_iff_not]
        exact fun e => hlen (by rw [e])
      clear hlen hlim
      go_wp2
      go_ret
      exact ⟨by rw [HP.out, HE.out]; simp, HB.out⟩
  · have hg1 : (lim != lim') = true := by simp [hlim]
    have HE : Hid (decide (lim = lim') = false) := decide_eq_false hlim
    clear hlim
    go_wp2
    go_ret
    exact ⟨by rw [HP.out, HE.out]; simp, HB.out⟩
end Go.Proofs.Ytefgnigbppfgfaa

/- Joined: W13 W13b. -/
import Derived.Test.YtlkfpeefjpmmfaaM13
import Derived.Test.YtlkfpeefjpmmfaaJ26
import Derived.Test.YtlkfpeefjpmmfaaW12f
import Derived.Test.YtlkfpeefjpmmfaaJ22
import Derived.Test.YtlkfpeefjpmmfaaJ23
import Derived.Deep.Cut

namespace Go.Proofs.Ytlkfpeefjpmmfaa
open Go.RowKit
set_option linter.unusedVariables false

/-- A kind's fields, a bit each. -/
def maskF (f : List UInt8) : Int := if f = [112] ∨ f = [110] then 16 else if f = [114] then 1 else if f = [115, 117] then 10 else if f = [114, 116] then 5 else if f = [115] then 2 else 0
def dataF (f : List UInt8) : Bool := decide (f = [112]) || decide (f = [110])
theorem mask_ref (k : Int) : (!(bits .and .i64 (maskF (shapeL k)) 1 == 0)) = (shapeL k).contains 114 := by
  rcases shape_cases k.toNat with h | h | h | h | h | h | h <;> rw [show shapeL k = _ from h] <;> decide
theorem mask_step (k : Int) : (!(bits .and .i64 (maskF (shapeL k)) 2 == 0)) = (shapeL k).contains 115 := by
  rcases shape_cases k.toNat with h | h | h | h | h | h | h <;> rw [show shapeL k = _ from h] <;> decide
theorem mask_try (k : Int) : (!(bits .and .i64 (maskF (shapeL k)) 4 == 0)) = (shapeL k).contains 116 := by
  rcases shape_cases k.toNat with h | h | h | h | h | h | h <;> rw [show shapeL k = _ from h] <;> decide
theorem mask_undo (k : Int) : (!(bits .and .i64 (maskF (shapeL k)) 8 == 0)) = decide (shapeL k = [115, 117]) := by
  rcases shape_cases k.toNat with h | h | h | h | h | h | h <;> rw [show shapeL k = _ from h] <;> decide
theorem mask_data (k : Int) : (!(bits .and .i64 (maskF (shapeL k)) 16 == 0)) = dataF (shapeL k) := by
  rcases shape_cases k.toNat with h | h | h | h | h | h | h <;> rw [show shapeL k = _ from h] <;> decide

/-- The fields' bits, where fieldsOf's answer looks. -/
def MaskAt (w : World) (p : Nat) (k : Int) : Prop := w.heap[p]? = some (.cells #[.int .i64 (maskF (shapeL k))] 3 (0, 0))
theorem MaskAt.later {w w' : World} {p : Nat} {k : Int} (h : MaskAt w p k) (t : Below w.heap.size w w') : MaskAt w' p k := (t.block p (block_lt h)).trans h
theorem MaskAt.block {w w' : World} {p : Nat} {k : Int} (h : MaskAt w p k) (t : w'.heap[p]? = w.heap[p]?) : MaskAt w' p k := t.trans h
set_option maxHeartbeats 1000000 in
theorem clo_any {w : World} {p : Nat} {m : Int} (h : w.cell? ⟨p, 0, none⟩ = some (.int .i64 m)) (b : Int) :
    Calls Try.prog 75 #[.int .i64 b, .pointer (some ⟨p, 0, none⟩)] w fun e w' => e = .returned (.bool (!(bits .and .i64 m b == 0))) ∧ w' = w := by
  go_enter Try.func75, Try.ntmps75
  go_wp2
  go_ret
  exact ⟨rfl, rfl⟩
section
variable {w : World} {p : Nat} {k : Int}
theorem has_ref (h : MaskAt w p k) : Calls Try.prog 75 #[.int .i64 1, .pointer (some ⟨p, 0, none⟩)] w fun e w' => e = .returned (.bool ((shapeL k).contains 114)) ∧ w' = w := by
  have := clo_any ((block_cell h 0).trans rfl) 1
  rwa [mask_ref k] at this
theorem has_step (h : MaskAt w p k) : Calls Try.prog 75 #[.int .i64 2, .pointer (some ⟨p, 0, none⟩)] w fun e w' => e = .returned (.bool ((shapeL k).contains 115)) ∧ w' = w := by
  have := clo_any ((block_cell h 0).trans rfl) 2
  rwa [mask_step k] at this
theorem has_try (h : MaskAt w p k) : Calls Try.prog 75 #[.int .i64 4, .pointer (some ⟨p, 0, none⟩)] w fun e w' => e = .returned (.bool ((shapeL k).contains 116)) ∧ w' = w := by
  have := clo_any ((block_cell h 0).trans rfl) 4
  rwa [mask_try k] at this
theorem has_undo (h : MaskAt w p k) : Calls Try.prog 75 #[.int .i64 8, .pointer (some ⟨p, 0, none⟩)] w fun e w' => e = .returned (.bool (decide (shapeL k = [115, 117]))) ∧ w' = w := by
  have := clo_any ((block_cell h 0).trans rfl) 8
  rwa [mask_undo k] at this
theorem has_data (h : MaskAt w p k) : Calls Try.prog 75 #[.int .i64 16, .pointer (some ⟨p, 0, none⟩)] w fun e w' => e = .returned (.bool (dataF (shapeL k))) ∧ w' = w := by
  have := clo_any ((block_cell h 0).trans rfl) 16
  rwa [mask_data k] at this
end

set_option maxHeartbeats 4000000 in
set_option maxRecDepth 100000 in
theorem fieldsOf_any (k : Int) (w : World) :
    Calls Try.prog 51 #[.int .i64 k] w fun e w' => e = .returned (.func (.func 75) #[] #[.pointer (some ⟨w.heap.size, 0, none⟩)]) ∧ MaskAt w' w.heap.size k ∧ Below w.heap.size w w' := by
  obtain ⟨w0, hw0⟩ : ∃ w0, w.alloc (.cells #[.int .i64 0] 3) = w0 := ⟨_, rfl⟩
  have hnw : w0.heap[w.heap.size]? = some (.cells #[.int .i64 0] 3 (0, 0)) := by rw [← hw0]; exact heap_alloc_new _ _
  have hbw : Below w.heap.size w w0 := by rw [← hw0]; exact (Below.refl _ w).alloc (Nat.le_refl _) _
  have hn1 : (w0.setCell ⟨w.heap.size, 0, none⟩ (.int .i64 0)).heap[w.heap.size]? = some (.cells #[.int .i64 0] 3 (0, 0)) := by rw [block_set hnw 0 (.int .i64 0)]; rfl
  have hb1 := hbw.setCell (p := ⟨w.heap.size, 0, none⟩) (Nat.le_refl _) (.int .i64 0)
  have HE : Hid (∀ v, ((w0.setCell ⟨w.heap.size, 0, none⟩ (.int .i64 0)).setCell ⟨w.heap.size, 0, none⟩ v).heap[w.heap.size]? = some (.cells #[v] 3 (0, 0)) ∧ Below w.heap.size w ((w0.setCell ⟨w.heap.size, 0, none⟩ (.int .i64 0)).setCell ⟨w.heap.size, 0, none⟩ v)) := fun v =>
    ⟨by rw [block_set hn1 0 v]; rfl, hb1.setCell (p := ⟨w.heap.size, 0, none⟩) (Nat.le_refl _) v⟩
  have HE0 : Hid ((w0.setCell ⟨w.heap.size, 0, none⟩ (.int .i64 0)).heap[w.heap.size]? = some (.cells #[.int .i64 0] 3 (0, 0)) ∧ Below w.heap.size w (w0.setCell ⟨w.heap.size, 0, none⟩ (.int .i64 0))) := ⟨hn1, hb1⟩
  have c0 := (block_cell hnw 0).trans rfl
  have c1 := block_free hnw 0
  clear hnw hbw hn1 hb1
  by_cases h : 1 ≤ k ∧ k ≤ 18
  · have hk : k = 1 ∨ k = 2 ∨ k = 3 ∨ k = 4 ∨ k = 5 ∨ k = 6 ∨ k = 7 ∨ k = 8 ∨ k = 9 ∨ k = 10 ∨ k = 11 ∨ k = 12 ∨ k = 13 ∨ k = 14 ∨ k = 15 ∨ k = 16 ∨ k = 17 ∨ k = 18 := by omega
    rcases hk with rfl | rfl | rfl | rfl | rfl | rfl | rfl | rfl | rfl | rfl | rfl | rfl | rfl | rfl | rfl | rfl | rfl | rfl
    all_goals
      clear h
      go_enter Try.func51, Try.ntmps51
      go_wp2
      go_ret
      first | exact ⟨rfl, HE0.out⟩ | exact ⟨rfl, HE.out _⟩
  · have hs : shapeL k = [] := by
      unfold shapeL shapeN
      rw [if_neg (by omega), if_neg (by omega), if_neg (by omega), if_neg (by omega), if_neg (by omega), if_neg (by omega)]
    unfold MaskAt
    rw [hs]
    clear hs
    by_cases h1 : k < 1
    · go_enter Try.func51, Try.ntmps51
      go_wp2
      go_ret
      exact ⟨rfl, HE0.out⟩
    · go_enter Try.func51, Try.ntmps51
      go_wp2
      go_ret
      exact ⟨rfl, HE0.out⟩

set_option maxHeartbeats 1000000 in
theorem isFrom_any (low n high : Int) (w : World) :
    Calls Try.prog 52 #[.int .i64 low, .int .i64 n, .int .i64 high] w fun e w' => e = .returned (.bool (inB n low high)) ∧ w' = w := by
  have HI : Hid (inB n low high = (decide (low ≤ n) && decide (n ≤ high))) := rfl
  generalize inB n low high = IB at *
  go_enter Try.func52, Try.ntmps52
  by_cases h1 : low ≤ n
  · by_cases h2 : n ≤ high
    · go_wp2
      go_ret
      exact ⟨by rw [HI.out]; congr 1; simp; omega, rfl⟩
    · go_wp2
      go_ret
      exact ⟨by rw [HI.out]; congr 1; simp; omega, rfl⟩
  · go_wp2
    go_ret
    exact ⟨by rw [HI.out]; congr 1; simp; omega, rfl⟩
set_option maxHeartbeats 1000000 in
theorem isNumber_any (f : List UInt8) (c : UInt8) (low n high : Int) (w : World) :
    Calls Try.prog 53 #[.bool (f.contains c), .int .i64 low, .int .i64 n, .int .i64 high] w fun e w' => e = .returned (.bool (fieldB f c n low high)) ∧ w' = w := by
  unfold fieldB
  generalize f.contains c = b
  cases b with
  | false =>
    go_enter Try.func53, Try.ntmps53
    go_wp2
    go_ret
    exact ⟨by congr 1, rfl⟩
  | true =>
    have HI := Lib.hid (isFrom_any low n high)
    simp only [if_true]
    generalize inB n low high = IB at *
    go_enter Try.func53, Try.ntmps53
    go_wp2_with fail
    refine (HI.out _).mono ?_
    rintro e w1 ⟨rfl, rfl⟩
    go_wp2
    go_ret
    exact ⟨rfl, rfl⟩
end Go.Proofs.Ytlkfpeefjpmmfaa

namespace Go.Proofs.Ytlkfpeefjpmmfaa
open Go.RowKit
set_option linter.unusedVariables false

theorem shape_other {k : Int} (h1 : k ≠ 1) (h2 : k ≠ 12) : shapeL k ≠ [112] ∧ shapeL k ≠ [110] := by
  unfold shapeL shapeN
  rw [if_neg (by omega)]
  repeat' split
  all_goals first | exact ⟨by decide, by decide⟩ | omega
set_option maxHeartbeats 1000000 in
set_option maxRecDepth 100000 in
theorem isData_any (k : Int) (s : ByteArray) (hs : s.size ≤ 140737488351232) (w : World) :
    Calls Try.prog 54 #[.int .i64 k, .string s] w fun e w' => e = .returned (.bool (dataB (shapeL k) s)) ∧ Below w.heap.size w w' := by
  by_cases h1 : k = 1
  · subst h1
    have HO : Hid (dataB (shapeL 1) s = okB s.data.toList) := rfl
    generalize dataB (shapeL 1) s = D at *
    go_enter Try.func54, Try.ntmps54
    go_wp2_with fail
    refine (decode_any s hs _).mono ?_
    rintro e w1 ⟨a, c, p, E, rfl, hR, hE, b1⟩
    have hE2 := okB_end hE
    have B1 := Lib.hid b1
    have HO2 : Hid (D = ((E : Int) == 0)) := by show _ = _; rw [HO.out, hE2]
    clear hR hE b1 hE2
    unfold ProgS.val'
    go_wp2
    go_ret
    exact ⟨by rw [HO2.out]; rfl, by repeat (first | exact B1.out | apply Below.drew | (refine Below.alloc ?_ (by exact B1.out.size) _) | (refine Below.setCell ?_ (by exact B1.out.size) _))⟩
  · by_cases h2 : k = 12
    · subst h2
      have HO : Hid (dataB (shapeL 12) s = nameB s) := rfl
      have HN := Lib.hid (named_any s (by unfold maxLen; omega))
      generalize dataB (shapeL 12) s = D at *
      generalize nameB s = NB at *
      go_enter Try.func54, Try.ntmps54
      go_wp2_with fail
      refine (HN.out _).mono ?_
      rintro e w1 ⟨rfl, rfl⟩
      go_wp2
      go_ret
      exact ⟨by rw [HO.out]; rfl, Below.refl _ _⟩
    · have HO : Hid (dataB (shapeL k) s = s.toList.isEmpty) := by
        show _ = _
        obtain ⟨a, b⟩ := shape_other h1 h2
        exact dataB_empty s (by rw [bx_list]; simpa using a) (by rw [bx_list]; simpa using b)
      have HT : Hid (s.toList.isEmpty = (s.toList == [])) := by
        show _ = _
        cases s.toList <;> rfl
      generalize dataB (shapeL k) s = D at *
      have k1 : (k == 1) = false := by rw [beq_eq_false_iff_ne]; exact h1
      have k2 : (k == 12) = false := by rw [beq_eq_false_iff_ne]; exact h2
      clear h1 h2
      go_enter Try.func54, Try.ntmps54
      go_wp2
      go_ret
      exact ⟨by rw [HO.out, HT.out]; rfl, Below.refl _ _⟩

end Go.Proofs.Ytlkfpeefjpmmfaa

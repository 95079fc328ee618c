/- Layer 14: the contract of the program's change, kind by kind: the ends. -/
import Derived.Test.YtlkfpeefjpmmfaaW14h
namespace Go.Proofs.Ytlkfpeefjpmmfaa
open Go.RowKit
set_option linter.unusedVariables false

set_option maxHeartbeats 2000000 in
set_option maxRecDepth 100000 in
theorem end14_any {base q : Nat} {w : World} {g j k : Value} {S : StS} (h : StAt base q w g j k S) (st : Int) :
    Calls Try.prog 39 #[.pointer (some ⟨q, 0, none⟩), .int .i64 st] w fun x w' => x = .returned (.tuple #[]) ∧ StAt base q w' g (.slice none 0 0) (.slice none 0 0) { S with status := st, asked := 0, taken := 0, fresh := false, jobs := [], clocks := [] } ∧ Below base w w' := by
  have H := Lib.hid h
  have hc := h.box.cells
  have s2 := (block_cell hc 2).trans rfl
  have s5 := (block_cell hc 5).trans rfl
  have s6 := (block_cell hc 6).trans rfl
  have s7 := (block_cell hc 7).trans rfl
  have s8 := (block_cell hc 8).trans rfl
  have s9 := (block_cell hc 9).trans rfl
  have f2 := block_free hc 2
  have f5 := block_free hc 5
  have f6 := block_free hc 6
  have f7 := block_free hc 7
  have f8 := block_free hc 8
  have f9 := block_free hc 9
  have HC := Lib.hid hc
  clear h hc
  go_enter Try.func39, Try.ntmps39
  go_wp2
  go_end0
  have hc := cells_set (i := 9) (u := .slice none 0 0) (cells_set (i := 8) (u := .slice none 0 0) (cells_set (i := 7) (u := .bool false) (cells_set (i := 6) (u := .int .i64 0) (cells_set (i := 5) (u := .int .i64 0) (cells_set (i := 2) (u := .int .i64 st) HC.out)))))
  have ho := other_set (i := 9) (u := .slice none 0 0) (other_set (i := 8) (u := .slice none 0 0) (other_set (i := 7) (u := .bool false) (other_set (i := 6) (u := .int .i64 0) (other_set (i := 5) (u := .int .i64 0) (other_set (i := 2) (u := .int .i64 st) (fun m (_ : m ≠ q) => (rfl : w.heap[m]? = w.heap[m]?)))))))
  have r1 := row_other H.out.own.og H.out.ne.1 ho
  exact ⟨rfl, ⟨box_is hc rfl, ⟨ReadG.own r1 H.out.own.rg.2.1, r1, World.ownsRow_nil _ _ _ _, World.ownsRow_nil _ _ _ _, fun q hq => ⟨fun h => by simp [Value.ownBlock] at h, fun h => by simp [Value.ownBlock] at h⟩, fun q h => by simp [Value.ownBlock] at h⟩, H.out.lo, H.out.ne.1, fun h => by simp [Value.ownBlock] at h, fun h => by simp [Value.ownBlock] at h⟩,
    (((((((Below.refl base w).setCell (p := ⟨q, 2, none⟩) H.out.lo _).setCell (p := ⟨q, 5, none⟩) H.out.lo _).setCell (p := ⟨q, 6, none⟩) H.out.lo _).setCell (p := ⟨q, 7, none⟩) H.out.lo _).setCell (p := ⟨q, 8, none⟩) H.out.lo _).setCell (p := ⟨q, 9, none⟩) H.out.lo _)⟩

set_option maxHeartbeats 4000000 in
set_option maxRecDepth 100000 in
theorem change_15 {base q : Nat} {w : World} {g j k : Value} {S : StS} (h : StAt base q w g j k S) {e : EvS} (hev : evB e = true) (hk : e.kind = 15) :
    Calls Try.prog 17 #[.pointer (some ⟨q, 0, none⟩), e.val'] w fun x w' => x = .returned (.tuple #[]) ∧ (∃ g' j' k', StAt base q w' g' j' k' { S with next := e.id + 1, status := 1, asked := 0, taken := 0, fresh := false, jobs := [], clocks := [] }) ∧ Below base w w' := by
  have hid := ((evB_iff _).1 hev).id
  have htk := ((evB_iff _).1 hev).tick
  obtain ⟨id, kind, tick, ref, step, tryN, undo, data⟩ := e
  simp only at hid hk htk
  have HKD := Lib.hid hk
  obtain ⟨w1, hw1, b1, E1, hs1⟩ := evBoxed w ⟨id, kind, tick, ref, step, tryN, undo, data⟩
  have H0 := Lib.hid h
  have H1 := Lib.hid (h.later b1)
  have HE1 := Lib.hid E1
  have B1 := Lib.hid b1
  have HQ : Hid (q < w.heap.size ∧ base ≤ q) := ⟨h.box.lt, h.lo⟩
  have f3 := block_free H1.out.box.cells 3
  have q3 := (block_cell H1.out.box.cells 3).trans rfl
  obtain ⟨d0, d1, -⟩ := E1.c
  have hio : IntKind.i64.wrap (id + 1) = id + 1 := IntWalk.i64_in _ ⟨by omega, by omega⟩
  unfold EvS.val'
  simp only at hw1 d0 d1
  subst hk
  clear hev b1 E1 hs1 h
  go_enter Try.func17, Try.ntmps17
  go_upto_region 2 with (fail)
  obtain ⟨w2, hw2⟩ : ∃ w2, w1.setCell ⟨q, 3, none⟩ (.int .i64 (id + 1)) = w2 := ⟨_, rfl⟩
  have HO2 : Hid (∀ m, m ≠ q → w2.heap[m]? = w1.heap[m]?) := by refine Lib.hid ?_; rw [← hw2]; exact set_other _ _ _ _
  have HC2 : Hid (w2.heap[q]? = some (.cells #[g, .int .i64 S.prog.limit, .int .i64 S.status, .int .i64 (id + 1), .int .i64 S.began, .int .i64 S.asked, .int .i64 S.taken, .bool S.fresh, j, k, .bool S.cancel, .bool S.overdue] 30 (0, 0))) := by refine Lib.hid ?_; rw [← hw2]; exact cells_set H1.out.box.cells
  have B2 : Hid (Below base w w2) := by refine Lib.hid ?_; rw [← hw2]; exact (B1.out.mono (by have := HQ.out; omega)).setCell (p := ⟨q, 3, none⟩) HQ.out.2 _
  have HE2 : Hid (EvBox w2 w.heap.size ⟨id, 15, tick, ref, step, tryN, undo, data⟩) := (HO2.out _ (by have := HQ.out; omega)).trans HE1.out
  have HN2 : Hid (w2.heap.size = w1.heap.size ∧ w1.heap.size = w.heap.size + 1) := by refine Lib.hid ⟨?_, ?_⟩; (rw [← hw2]; simp [World.setCell]); (rw [← hw1]; simp)
  (try rw [hw2])
  clear hw2 f3 q3 d0 d1 hio
  obtain ⟨d0, d1, d2, d3, d4, d5, d6, d7⟩ := HE2.out.c
  have s0 := (block_cell HC2.out 0).trans rfl
  have s1 := (block_cell HC2.out 1).trans rfl
  have s2 := (block_cell HC2.out 2).trans rfl
  have s3 := (block_cell HC2.out 3).trans rfl
  have s4 := (block_cell HC2.out 4).trans rfl
  have s5 := (block_cell HC2.out 5).trans rfl
  have s6 := (block_cell HC2.out 6).trans rfl
  have s7 := (block_cell HC2.out 7).trans rfl
  have s8 := (block_cell HC2.out 8).trans rfl
  have s9 := (block_cell HC2.out 9).trans rfl
  have s10 := (block_cell HC2.out 10).trans rfl
  have s11 := (block_cell HC2.out 11).trans rfl
  have f0 := block_free HC2.out 0
  have f1 := block_free HC2.out 1
  have f2 := block_free HC2.out 2
  have f3 := block_free HC2.out 3
  have f4 := block_free HC2.out 4
  have f5 := block_free HC2.out 5
  have f6 := block_free HC2.out 6
  have f7 := block_free HC2.out 7
  have f8 := block_free HC2.out 8
  have f9 := block_free HC2.out 9
  have f10 := block_free HC2.out 10
  have f11 := block_free HC2.out 11
  simp only at d0 d1 d2 d3 d4 d5 d6 d7
  have H2 : Hid (StAt base q w2 g j k { S with next := id + 1 }) := ⟨box_is HC2.out rfl, H1.out.own.other H1.out.ne HO2.out rfl rfl rfl, HQ.out.2, H1.out.ne⟩
  go_wp2_with fail
  refine (end14_any H2.out 1).mono ?_
  rintro x w3 ⟨rfl, h3, b3⟩
  have H3 := Lib.hid h3
  have B3 := Lib.hid (B2.out.trans b3)
  clear h3 b3 d0 d1 d2 d3 d4 d5 d6 d7 s0 s1 s2 s3 s4 s5 s6 s7 s8 s9 s10 s11 f0 f1 f2 f3 f4 f5 f6 f7 f8 f9 f10 f11
  go_wp2
  go_end0
  exact ⟨rfl, ⟨_, _, _, H3.out⟩, B3.out⟩

set_option maxHeartbeats 4000000 in
set_option maxRecDepth 100000 in
theorem change_16 {base q : Nat} {w : World} {g j k : Value} {S : StS} (h : StAt base q w g j k S) {e : EvS} (hev : evB e = true) (hk : e.kind = 16) :
    Calls Try.prog 17 #[.pointer (some ⟨q, 0, none⟩), e.val'] w fun x w' => x = .returned (.tuple #[]) ∧ (∃ g' j' k', StAt base q w' g' j' k' { S with next := e.id + 1, status := 2, asked := 0, taken := 0, fresh := false, jobs := [], clocks := [] }) ∧ Below base w w' := by
  have hid := ((evB_iff _).1 hev).id
  have htk := ((evB_iff _).1 hev).tick
  obtain ⟨id, kind, tick, ref, step, tryN, undo, data⟩ := e
  simp only at hid hk htk
  have HKD := Lib.hid hk
  obtain ⟨w1, hw1, b1, E1, hs1⟩ := evBoxed w ⟨id, kind, tick, ref, step, tryN, undo, data⟩
  have H0 := Lib.hid h
  have H1 := Lib.hid (h.later b1)
  have HE1 := Lib.hid E1
  have B1 := Lib.hid b1
  have HQ : Hid (q < w.heap.size ∧ base ≤ q) := ⟨h.box.lt, h.lo⟩
  have f3 := block_free H1.out.box.cells 3
  have q3 := (block_cell H1.out.box.cells 3).trans rfl
  obtain ⟨d0, d1, -⟩ := E1.c
  have hio : IntKind.i64.wrap (id + 1) = id + 1 := IntWalk.i64_in _ ⟨by omega, by omega⟩
  unfold EvS.val'
  simp only at hw1 d0 d1
  subst hk
  clear hev b1 E1 hs1 h
  go_enter Try.func17, Try.ntmps17
  go_upto_region 2 with (fail)
  obtain ⟨w2, hw2⟩ : ∃ w2, w1.setCell ⟨q, 3, none⟩ (.int .i64 (id + 1)) = w2 := ⟨_, rfl⟩
  have HO2 : Hid (∀ m, m ≠ q → w2.heap[m]? = w1.heap[m]?) := by refine Lib.hid ?_; rw [← hw2]; exact set_other _ _ _ _
  have HC2 : Hid (w2.heap[q]? = some (.cells #[g, .int .i64 S.prog.limit, .int .i64 S.status, .int .i64 (id + 1), .int .i64 S.began, .int .i64 S.asked, .int .i64 S.taken, .bool S.fresh, j, k, .bool S.cancel, .bool S.overdue] 30 (0, 0))) := by refine Lib.hid ?_; rw [← hw2]; exact cells_set H1.out.box.cells
  have B2 : Hid (Below base w w2) := by refine Lib.hid ?_; rw [← hw2]; exact (B1.out.mono (by have := HQ.out; omega)).setCell (p := ⟨q, 3, none⟩) HQ.out.2 _
  have HE2 : Hid (EvBox w2 w.heap.size ⟨id, 16, tick, ref, step, tryN, undo, data⟩) := (HO2.out _ (by have := HQ.out; omega)).trans HE1.out
  have HN2 : Hid (w2.heap.size = w1.heap.size ∧ w1.heap.size = w.heap.size + 1) := by refine Lib.hid ⟨?_, ?_⟩; (rw [← hw2]; simp [World.setCell]); (rw [← hw1]; simp)
  (try rw [hw2])
  clear hw2 f3 q3 d0 d1 hio
  obtain ⟨d0, d1, d2, d3, d4, d5, d6, d7⟩ := HE2.out.c
  have s0 := (block_cell HC2.out 0).trans rfl
  have s1 := (block_cell HC2.out 1).trans rfl
  have s2 := (block_cell HC2.out 2).trans rfl
  have s3 := (block_cell HC2.out 3).trans rfl
  have s4 := (block_cell HC2.out 4).trans rfl
  have s5 := (block_cell HC2.out 5).trans rfl
  have s6 := (block_cell HC2.out 6).trans rfl
  have s7 := (block_cell HC2.out 7).trans rfl
  have s8 := (block_cell HC2.out 8).trans rfl
  have s9 := (block_cell HC2.out 9).trans rfl
  have s10 := (block_cell HC2.out 10).trans rfl
  have s11 := (block_cell HC2.out 11).trans rfl
  have f0 := block_free HC2.out 0
  have f1 := block_free HC2.out 1
  have f2 := block_free HC2.out 2
  have f3 := block_free HC2.out 3
  have f4 := block_free HC2.out 4
  have f5 := block_free HC2.out 5
  have f6 := block_free HC2.out 6
  have f7 := block_free HC2.out 7
  have f8 := block_free HC2.out 8
  have f9 := block_free HC2.out 9
  have f10 := block_free HC2.out 10
  have f11 := block_free HC2.out 11
  simp only at d0 d1 d2 d3 d4 d5 d6 d7
  have H2 : Hid (StAt base q w2 g j k { S with next := id + 1 }) := ⟨box_is HC2.out rfl, H1.out.own.other H1.out.ne HO2.out rfl rfl rfl, HQ.out.2, H1.out.ne⟩
  go_wp2_with fail
  refine (end14_any H2.out 2).mono ?_
  rintro x w3 ⟨rfl, h3, b3⟩
  have H3 := Lib.hid h3
  have B3 := Lib.hid (B2.out.trans b3)
  clear h3 b3 d0 d1 d2 d3 d4 d5 d6 d7 s0 s1 s2 s3 s4 s5 s6 s7 s8 s9 s10 s11 f0 f1 f2 f3 f4 f5 f6 f7 f8 f9 f10 f11
  go_wp2
  go_end0
  exact ⟨rfl, ⟨_, _, _, H3.out⟩, B3.out⟩

set_option maxHeartbeats 4000000 in
set_option maxRecDepth 100000 in
theorem change_17 {base q : Nat} {w : World} {g j k : Value} {S : StS} (h : StAt base q w g j k S) {e : EvS} (hev : evB e = true) (hk : e.kind = 17) :
    Calls Try.prog 17 #[.pointer (some ⟨q, 0, none⟩), e.val'] w fun x w' => x = .returned (.tuple #[]) ∧ (∃ g' j' k', StAt base q w' g' j' k' { S with next := e.id + 1, status := 3, asked := 0, taken := 0, fresh := false, jobs := [], clocks := [] }) ∧ Below base w w' := by
  have hid := ((evB_iff _).1 hev).id
  have htk := ((evB_iff _).1 hev).tick
  obtain ⟨id, kind, tick, ref, step, tryN, undo, data⟩ := e
  simp only at hid hk htk
  have HKD := Lib.hid hk
  obtain ⟨w1, hw1, b1, E1, hs1⟩ := evBoxed w ⟨id, kind, tick, ref, step, tryN, undo, data⟩
  have H0 := Lib.hid h
  have H1 := Lib.hid (h.later b1)
  have HE1 := Lib.hid E1
  have B1 := Lib.hid b1
  have HQ : Hid (q < w.heap.size ∧ base ≤ q) := ⟨h.box.lt, h.lo⟩
  have f3 := block_free H1.out.box.cells 3
  have q3 := (block_cell H1.out.box.cells 3).trans rfl
  obtain ⟨d0, d1, -⟩ := E1.c
  have hio : IntKind.i64.wrap (id + 1) = id + 1 := IntWalk.i64_in _ ⟨by omega, by omega⟩
  unfold EvS.val'
  simp only at hw1 d0 d1
  subst hk
  clear hev b1 E1 hs1 h
  go_enter Try.func17, Try.ntmps17
  go_upto_region 2 with (fail)
  obtain ⟨w2, hw2⟩ : ∃ w2, w1.setCell ⟨q, 3, none⟩ (.int .i64 (id + 1)) = w2 := ⟨_, rfl⟩
  have HO2 : Hid (∀ m, m ≠ q → w2.heap[m]? = w1.heap[m]?) := by refine Lib.hid ?_; rw [← hw2]; exact set_other _ _ _ _
  have HC2 : Hid (w2.heap[q]? = some (.cells #[g, .int .i64 S.prog.limit, .int .i64 S.status, .int .i64 (id + 1), .int .i64 S.began, .int .i64 S.asked, .int .i64 S.taken, .bool S.fresh, j, k, .bool S.cancel, .bool S.overdue] 30 (0, 0))) := by refine Lib.hid ?_; rw [← hw2]; exact cells_set H1.out.box.cells
  have B2 : Hid (Below base w w2) := by refine Lib.hid ?_; rw [← hw2]; exact (B1.out.mono (by have := HQ.out; omega)).setCell (p := ⟨q, 3, none⟩) HQ.out.2 _
  have HE2 : Hid (EvBox w2 w.heap.size ⟨id, 17, tick, ref, step, tryN, undo, data⟩) := (HO2.out _ (by have := HQ.out; omega)).trans HE1.out
  have HN2 : Hid (w2.heap.size = w1.heap.size ∧ w1.heap.size = w.heap.size + 1) := by refine Lib.hid ⟨?_, ?_⟩; (rw [← hw2]; simp [World.setCell]); (rw [← hw1]; simp)
  (try rw [hw2])
  clear hw2 f3 q3 d0 d1 hio
  obtain ⟨d0, d1, d2, d3, d4, d5, d6, d7⟩ := HE2.out.c
  have s0 := (block_cell HC2.out 0).trans rfl
  have s1 := (block_cell HC2.out 1).trans rfl
  have s2 := (block_cell HC2.out 2).trans rfl
  have s3 := (block_cell HC2.out 3).trans rfl
  have s4 := (block_cell HC2.out 4).trans rfl
  have s5 := (block_cell HC2.out 5).trans rfl
  have s6 := (block_cell HC2.out 6).trans rfl
  have s7 := (block_cell HC2.out 7).trans rfl
  have s8 := (block_cell HC2.out 8).trans rfl
  have s9 := (block_cell HC2.out 9).trans rfl
  have s10 := (block_cell HC2.out 10).trans rfl
  have s11 := (block_cell HC2.out 11).trans rfl
  have f0 := block_free HC2.out 0
  have f1 := block_free HC2.out 1
  have f2 := block_free HC2.out 2
  have f3 := block_free HC2.out 3
  have f4 := block_free HC2.out 4
  have f5 := block_free HC2.out 5
  have f6 := block_free HC2.out 6
  have f7 := block_free HC2.out 7
  have f8 := block_free HC2.out 8
  have f9 := block_free HC2.out 9
  have f10 := block_free HC2.out 10
  have f11 := block_free HC2.out 11
  simp only at d0 d1 d2 d3 d4 d5 d6 d7
  have H2 : Hid (StAt base q w2 g j k { S with next := id + 1 }) := ⟨box_is HC2.out rfl, H1.out.own.other H1.out.ne HO2.out rfl rfl rfl, HQ.out.2, H1.out.ne⟩
  go_wp2_with fail
  refine (end14_any H2.out 3).mono ?_
  rintro x w3 ⟨rfl, h3, b3⟩
  have H3 := Lib.hid h3
  have B3 := Lib.hid (B2.out.trans b3)
  clear h3 b3 d0 d1 d2 d3 d4 d5 d6 d7 s0 s1 s2 s3 s4 s5 s6 s7 s8 s9 s10 s11 f0 f1 f2 f3 f4 f5 f6 f7 f8 f9 f10 f11
  go_wp2
  go_end0
  exact ⟨rfl, ⟨_, _, _, H3.out⟩, B3.out⟩

set_option maxHeartbeats 4000000 in
set_option maxRecDepth 100000 in
theorem change_18 {base q : Nat} {w : World} {g j k : Value} {S : StS} (h : StAt base q w g j k S) {e : EvS} (hev : evB e = true) (hk : e.kind = 18) :
    Calls Try.prog 17 #[.pointer (some ⟨q, 0, none⟩), e.val'] w fun x w' => x = .returned (.tuple #[]) ∧ (∃ g' j' k', StAt base q w' g' j' k' { S with next := e.id + 1, status := 4, asked := 0, taken := 0, fresh := false, jobs := [], clocks := [] }) ∧ Below base w w' := by
  have hid := ((evB_iff _).1 hev).id
  have htk := ((evB_iff _).1 hev).tick
  obtain ⟨id, kind, tick, ref, step, tryN, undo, data⟩ := e
  simp only at hid hk htk
  have HKD := Lib.hid hk
  obtain ⟨w1, hw1, b1, E1, hs1⟩ := evBoxed w ⟨id, kind, tick, ref, step, tryN, undo, data⟩
  have H0 := Lib.hid h
  have H1 := Lib.hid (h.later b1)
  have HE1 := Lib.hid E1
  have B1 := Lib.hid b1
  have HQ : Hid (q < w.heap.size ∧ base ≤ q) := ⟨h.box.lt, h.lo⟩
  have f3 := block_free H1.out.box.cells 3
  have q3 := (block_cell H1.out.box.cells 3).trans rfl
  obtain ⟨d0, d1, -⟩ := E1.c
  have hio : IntKind.i64.wrap (id + 1) = id + 1 := IntWalk.i64_in _ ⟨by omega, by omega⟩
  unfold EvS.val'
  simp only at hw1 d0 d1
  subst hk
  clear hev b1 E1 hs1 h
  go_enter Try.func17, Try.ntmps17
  go_upto_region 2 with (fail)
  obtain ⟨w2, hw2⟩ : ∃ w2, w1.setCell ⟨q, 3, none⟩ (.int .i64 (id + 1)) = w2 := ⟨_, rfl⟩
  have HO2 : Hid (∀ m, m ≠ q → w2.heap[m]? = w1.heap[m]?) := by refine Lib.hid ?_; rw [← hw2]; exact set_other _ _ _ _
  have HC2 : Hid (w2.heap[q]? = some (.cells #[g, .int .i64 S.prog.limit, .int .i64 S.status, .int .i64 (id + 1), .int .i64 S.began, .int .i64 S.asked, .int .i64 S.taken, .bool S.fresh, j, k, .bool S.cancel, .bool S.overdue] 30 (0, 0))) := by refine Lib.hid ?_; rw [← hw2]; exact cells_set H1.out.box.cells
  have B2 : Hid (Below base w w2) := by refine Lib.hid ?_; rw [← hw2]; exact (B1.out.mono (by have := HQ.out; omega)).setCell (p := ⟨q, 3, none⟩) HQ.out.2 _
  have HE2 : Hid (EvBox w2 w.heap.size ⟨id, 18, tick, ref, step, tryN, undo, data⟩) := (HO2.out _ (by have := HQ.out; omega)).trans HE1.out
  have HN2 : Hid (w2.heap.size = w1.heap.size ∧ w1.heap.size = w.heap.size + 1) := by refine Lib.hid ⟨?_, ?_⟩; (rw [← hw2]; simp [World.setCell]); (rw [← hw1]; simp)
  (try rw [hw2])
  clear hw2 f3 q3 d0 d1 hio
  obtain ⟨d0, d1, d2, d3, d4, d5, d6, d7⟩ := HE2.out.c
  have s0 := (block_cell HC2.out 0).trans rfl
  have s1 := (block_cell HC2.out 1).trans rfl
  have s2 := (block_cell HC2.out 2).trans rfl
  have s3 := (block_cell HC2.out 3).trans rfl
  have s4 := (block_cell HC2.out 4).trans rfl
  have s5 := (block_cell HC2.out 5).trans rfl
  have s6 := (block_cell HC2.out 6).trans rfl
  have s7 := (block_cell HC2.out 7).trans rfl
  have s8 := (block_cell HC2.out 8).trans rfl
  have s9 := (block_cell HC2.out 9).trans rfl
  have s10 := (block_cell HC2.out 10).trans rfl
  have s11 := (block_cell HC2.out 11).trans rfl
  have f0 := block_free HC2.out 0
  have f1 := block_free HC2.out 1
  have f2 := block_free HC2.out 2
  have f3 := block_free HC2.out 3
  have f4 := block_free HC2.out 4
  have f5 := block_free HC2.out 5
  have f6 := block_free HC2.out 6
  have f7 := block_free HC2.out 7
  have f8 := block_free HC2.out 8
  have f9 := block_free HC2.out 9
  have f10 := block_free HC2.out 10
  have f11 := block_free HC2.out 11
  simp only at d0 d1 d2 d3 d4 d5 d6 d7
  have H2 : Hid (StAt base q w2 g j k { S with next := id + 1 }) := ⟨box_is HC2.out rfl, H1.out.own.other H1.out.ne HO2.out rfl rfl rfl, HQ.out.2, H1.out.ne⟩
  go_wp2_with fail
  refine (end14_any H2.out 4).mono ?_
  rintro x w3 ⟨rfl, h3, b3⟩
  have H3 := Lib.hid h3
  have B3 := Lib.hid (B2.out.trans b3)
  clear h3 b3 d0 d1 d2 d3 d4 d5 d6 d7 s0 s1 s2 s3 s4 s5 s6 s7 s8 s9 s10 s11 f0 f1 f2 f3 f4 f5 f6 f7 f8 f9 f10 f11
  go_wp2
  go_end0
  exact ⟨rfl, ⟨_, _, _, H3.out⟩, B3.out⟩
end Go.Proofs.Ytlkfpeefjpmmfaa

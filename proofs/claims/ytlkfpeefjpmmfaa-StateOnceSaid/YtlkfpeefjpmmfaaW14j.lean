/- Layer 14: the contract of the program's change, kind by kind: a job more, a clock more. -/
import Derived.Test.YtlkfpeefjpmmfaaW14h
import Derived.Test.YtlkfpeefjpmmfaaI25
namespace Go.Proofs.Ytlkfpeefjpmmfaa
open Go.RowKit
set_option linter.unusedVariables false

set_option maxHeartbeats 4000000 in
set_option maxRecDepth 100000 in
theorem change_6 {base q : Nat} {w : World} {g j k : Value} {S : StS} (h : StAt base q w g j k S) {e : EvS} (hev : evB e = true) (hk : e.kind = 6) (hl : S.jobs.length ≤ 1000) :
    Calls Try.prog 17 #[.pointer (some ⟨q, 0, none⟩), e.val'] w fun x w' => x = .returned (.tuple #[]) ∧ (∃ g' j' k', StAt base q w' g' j' k' { S with next := e.id + 1, jobs := S.jobs ++ [⟨e.id, e.step, e.undo, 1⟩] }) ∧ Below base w w' := by
  have hid := ((evB_iff _).1 hev).id
  have htk := ((evB_iff _).1 hev).tick
  obtain ⟨id, kind, tick, ref, step, tryN, undo, data⟩ := e
  simp only at hid hk htk
  have HKD := Lib.hid hk
  obtain ⟨w1, hw1, b1, E1, hs1⟩ := evBoxed w ⟨id, kind, tick, ref, step, tryN, undo, data⟩
  have H0 := Lib.hid h
  have H1 := Lib.hid (h.later b1)
  have HE1 := Lib.hid E1
  have B1 := Lib.hid b1
  have HQ : Hid (q < w.heap.size ∧ base ≤ q) := ⟨h.box.lt, h.lo⟩
  have f3 := block_free H1.out.box.cells 3
  have q3 := (block_cell H1.out.box.cells 3).trans rfl
  obtain ⟨d0, d1, -⟩ := E1.c
  have hio : IntKind.i64.wrap (id + 1) = id + 1 := IntWalk.i64_in _ ⟨by omega, by omega⟩
  unfold EvS.val'
  simp only at hw1 d0 d1
  subst hk
  clear hev b1 E1 hs1 h
  go_enter Try.func17, Try.ntmps17
  go_upto_region 2 with (fail)
  obtain ⟨w2, hw2⟩ : ∃ w2, w1.setCell ⟨q, 3, none⟩ (.int .i64 (id + 1)) = w2 := ⟨_, rfl⟩
  have HO2 : Hid (∀ m, m ≠ q → w2.heap[m]? = w1.heap[m]?) := by refine Lib.hid ?_; rw [← hw2]; exact set_other _ _ _ _
  have HC2 : Hid (w2.heap[q]? = some (.cells #[g, .int .i64 S.prog.limit, .int .i64 S.status, .int .i64 (id + 1), .int .i64 S.began, .int .i64 S.asked, .int .i64 S.taken, .bool S.fresh, j, k, .bool S.cancel, .bool S.overdue] 30 (0, 0))) := by refine Lib.hid ?_; rw [← hw2]; exact cells_set H1.out.box.cells
  have B2 : Hid (Below base w w2) := by refine Lib.hid ?_; rw [← hw2]; exact (B1.out.mono (by have := HQ.out; omega)).setCell (p := ⟨q, 3, none⟩) HQ.out.2 _
  have HE2 : Hid (EvBox w2 w.heap.size ⟨id, 6, tick, ref, step, tryN, undo, data⟩) := (HO2.out _ (by have := HQ.out; omega)).trans HE1.out
  have HN2 : Hid (w2.heap.size = w1.heap.size ∧ w1.heap.size = w.heap.size + 1) := by refine Lib.hid ⟨?_, ?_⟩; (rw [← hw2]; simp [World.setCell]); (rw [← hw1]; simp)
  (try rw [hw2])
  clear hw2 f3 q3 d0 d1 hio
  obtain ⟨d0, d1, d2, d3, d4, d5, d6, d7⟩ := HE2.out.c
  have s0 := (block_cell HC2.out 0).trans rfl
  have s1 := (block_cell HC2.out 1).trans rfl
  have s2 := (block_cell HC2.out 2).trans rfl
  have s3 := (block_cell HC2.out 3).trans rfl
  have s4 := (block_cell HC2.out 4).trans rfl
  have s5 := (block_cell HC2.out 5).trans rfl
  have s6 := (block_cell HC2.out 6).trans rfl
  have s7 := (block_cell HC2.out 7).trans rfl
  have s8 := (block_cell HC2.out 8).trans rfl
  have s9 := (block_cell HC2.out 9).trans rfl
  have s10 := (block_cell HC2.out 10).trans rfl
  have s11 := (block_cell HC2.out 11).trans rfl
  have f0 := block_free HC2.out 0
  have f1 := block_free HC2.out 1
  have f2 := block_free HC2.out 2
  have f3 := block_free HC2.out 3
  have f4 := block_free HC2.out 4
  have f5 := block_free HC2.out 5
  have f6 := block_free HC2.out 6
  have f7 := block_free HC2.out 7
  have f8 := block_free HC2.out 8
  have f9 := block_free HC2.out 9
  have f10 := block_free HC2.out 10
  have f11 := block_free HC2.out 11
  simp only at d0 d1 d2 d3 d4 d5 d6 d7
  obtain ⟨i0, hi0, hz0, hz1, hz2⟩ := info_parts infoJob
  have HOJ := Lib.hid (ownsRow_base (row_other H1.out.own.oj H1.out.ne.2.1 HO2.out) (Nat.zero_le _))
  have HNE := Lib.hid H1.out.ne
  have HS : Hid (∀ wx : World, (∀ m, m < w2.heap.size → wx.heap[m]? = w2.heap[m]? ∨ some m = j.ownBlock) → wx.cell? ⟨q, 8, none⟩ = some j ∧ wx.cell? ⟨w.heap.size, 0, none⟩ = some (.int .i64 id) ∧ wx.cell? ⟨w.heap.size, 4, none⟩ = some (.int .i64 step) ∧ wx.cell? ⟨w.heap.size, 6, none⟩ = some (.bool undo)) := fun wx t => by
    have hq : wx.heap[q]? = w2.heap[q]? := by
      rcases t q (block_lt HC2.out) with h | h
      · exact h
      · exact (HNE.out.2.1 h.symm).elim
    have he : wx.heap[w.heap.size]? = w2.heap[w.heap.size]? := by
      rcases t w.heap.size (block_lt HE2.out) with h | h
      · exact h
      · have := (H0.out.own.oj.lt _ h.symm).2; omega
    obtain ⟨e0, -, -, -, e4, -, e6, -⟩ := EvBox.c (w := wx) (b := w.heap.size) (he.trans HE2.out)
    exact ⟨(block_cell (hq.trans HC2.out) 8).trans rfl, e0, e4, e6⟩
  go_upto_region 15 with (fail)
  clear d0 d1 d2 d3 d4 d5 d6 d7 s0 s1 s2 s3 s4 s5 s6 s7 s8 s9 s10 s11 f0 f1 f2 f3 f4 f5 f6 f7 f8 f9 f10 f11
  refine rest_region (late := [14, 15, 16]) (S := fun w' : World => w'.cell? ⟨q, 8, none⟩ = some j ∧ w'.cell? ⟨w.heap.size, 0, none⟩ = some (.int .i64 id) ∧ w'.cell? ⟨w.heap.size, 4, none⟩ = some (.int .i64 step) ∧ w'.cell? ⟨w.heap.size, 6, none⟩ = some (.bool undo)) (by kernel_rfl) (HS.out _ (fun m hm => .inl rfl)) (fun hHeld => ?_)
  refine Rest.take (i := 0) (v := ?_) rfl (by kernel_rfl) (by kernel_rfl) (by kernel_rfl) (by kernel_rfl) (fun _ _ _ h => h) (Or.inl ⟨by rfl, ?_⟩) (by assumption) ?_
  rotate_left
  · intro w hSw; (try dsimp only at hSw); go_simp; (try with_reducible rfl)
  try simp only [Act.put, List.setIfInBounds_toArray]
  refine Rest.take (i := 1) (v := ?_) rfl (by kernel_rfl) (by kernel_rfl) (by kernel_rfl) (by kernel_rfl) (fun _ _ _ h => h) (Or.inl ⟨by rfl, ?_⟩) (by assumption) ?_
  rotate_left
  · intro w hSw; (try dsimp only at hSw); go_simp; (try with_reducible rfl)
  try simp only [Act.put]
  refine Rest.take (i := 2) (v := ?_) rfl (by kernel_rfl) (by kernel_rfl) (by kernel_rfl) (by kernel_rfl) (fun _ _ _ h => h) (Or.inl ⟨by rfl, ?_⟩) (by assumption) ?_
  rotate_left
  · intro w hSw; (try dsimp only at hSw); go_simp; (try with_reducible rfl)
  try simp only [Act.put]
  refine Rest.take (i := 3) (v := ?_) rfl (by kernel_rfl) (by kernel_rfl) (by kernel_rfl) (by kernel_rfl) (fun _ _ _ h => h) (Or.inl ⟨by rfl, ?_⟩) (by assumption) ?_
  rotate_left
  · intro w hSw; (try dsimp only at hSw); go_simp; (try with_reducible rfl)
  try simp only [Act.put]
  refine Rest.take (i := 4) (v := ?_) rfl (by kernel_rfl) (by kernel_rfl) (by kernel_rfl) (by kernel_rfl) (fun _ _ _ h => h) (Or.inl ⟨by rfl, ?_⟩) (by assumption) ?_
  rotate_left
  · intro w hSw; (try dsimp only at hSw); go_simp; (try with_reducible rfl)
  try simp only [Act.put]
  refine Rest.take (i := 5) (v := ?_) rfl (by kernel_rfl) (by kernel_rfl) (by kernel_rfl) (by kernel_rfl) (fun _ _ _ h => h) (Or.inl ⟨by rfl, ?_⟩) (by assumption) ?_
  rotate_left
  · intro w hSw; (try dsimp only at hSw); go_simp; (try with_reducible rfl)
  try simp only [Act.put]
  refine Rest.take (i := 6) (v := ?_) rfl (by kernel_rfl) (by kernel_rfl) (by kernel_rfl) (by kernel_rfl) (fun _ _ _ h => h) (Or.inl ⟨by rfl, ?_⟩) (by assumption) ?_
  rotate_left
  · intro w hSw; (try dsimp only at hSw); go_simp; (try with_reducible rfl)
  try simp only [Act.put]
  refine Rest.take (i := 7) (v := ?_) rfl (by kernel_rfl) (by kernel_rfl) (by kernel_rfl) (by kernel_rfl) (fun _ _ _ h => h) (Or.inl ⟨by rfl, ?_⟩) (by assumption) ?_
  rotate_left
  · intro w hSw; (try dsimp only at hSw); go_simp; (try with_reducible rfl)
  try simp only [Act.put]
  refine Rest.take (i := 8) (v := ?_) rfl (by kernel_rfl) (by kernel_rfl) (by kernel_rfl) (by kernel_rfl) (fun _ _ _ h => h) (Or.inl ⟨by rfl, ?_⟩) (by assumption) ?_
  rotate_left
  · intro w hSw; (try dsimp only at hSw); go_simp; (try with_reducible rfl)
  try simp only [Act.put]
  refine Rest.take (i := 9) (v := ?_) rfl (by kernel_rfl) (by kernel_rfl) (by kernel_rfl) (by kernel_rfl) (fun _ _ _ h => h) (Or.inl ⟨by rfl, ?_⟩) (by assumption) ?_
  rotate_left
  · intro w hSw; (try dsimp only at hSw); go_simp; (try with_reducible rfl)
  try simp only [Act.put]
  refine Rest.take (i := 10) (v := ?_) rfl (by kernel_rfl) (by kernel_rfl) (by kernel_rfl) (by kernel_rfl) (fun _ _ _ h => h) (Or.inl ⟨by rfl, ?_⟩) (by assumption) ?_
  rotate_left
  · intro w hSw; (try dsimp only at hSw); go_simp; (try with_reducible rfl)
  try simp only [Act.put]
  refine Rest.take (i := 11) (v := ?_) rfl (by kernel_rfl) (by kernel_rfl) (by kernel_rfl) (by kernel_rfl) (fun _ _ _ h => h) (Or.inl ⟨by rfl, ?_⟩) (by assumption) ?_
  rotate_left
  · intro w hSw; (try dsimp only at hSw); go_simp; (try with_reducible rfl)
  try simp only [Act.put]
  refine Rest.one (i := 12) (by kernel_rfl) rfl (by rfl) (fun K hK => ?_)
  go_simp
  have hbW : Below w2.heap.size w2 (w2.alloc (.cells #[.int .i64 id, .int .i64 step, .bool undo, .int .i64 1] 49)) := (Below.refl _ _).alloc (Nat.le_refl _) _
  refine hK.out _ _ (fun _ _ => HS.out _ (fun m hm => .inl (hbW.block m hm))) (fun _ => ?_)
  clear hK K hHeld
  try simp only [Act.put, List.setIfInBounds_toArray, List.set_cons_zero, List.set_cons_succ]
  refine Rest.one (i := 13) (by kernel_rfl) rfl (by rfl) (fun K hK => ?_)
  refine step_app1 (w2.alloc (.cells #[.int .i64 id, .int .i64 step, .bool undo, .int .i64 1] 49)).drew (T := 27) (E := 49) (i := i0) (z := .agg #[.int .i64 0, .int .i64 0, .bool false, .int .i64 0]) (sz := 4) (bytes := 32) (v := j) (n := S.jobs.length) (xs := rowR JobS.cells S.jobs) (m := 1) (news := JobS.cells ⟨id, step, undo, 1⟩) (by rfl) (.tmp 70) (.tmp 78) (by rfl) Try.underlying27 hi0 hz0 hz1 hz2 rfl (by decide) (by rfl) (ownsRow_drew (ownsRow_below HOJ.out hbW)) (by rfl) (src_new (sz := 4) w2 #[.int .i64 id, .int .i64 step, .bool undo, .int .i64 1] 49 rfl (JobS.one ⟨id, step, undo, 1⟩)).drew (by omega) (by unfold maxLen; omega) ?_
  intro b6 c6 w6 own6 g6 l6
  have HB6 : Hid (∀ m, m < w2.heap.size → w6.heap[m]? = w2.heap[m]? ∨ some m = j.ownBlock) := fun m hm => by
    by_cases hj : some m = j.ownBlock
    · exact .inr hj
    · exact .inl ((g6.block m (Nat.lt_of_lt_of_le hm hbW.size) hj).trans (hbW.block m hm))
  have HO6 := Lib.hid own6
  have HG6 := Lib.hid g6
  have HL6 := Lib.hid l6
  have HBW := Lib.hid hbW
  refine hK.out _ _ (fun _ _ => HS.out _ HB6.out) (fun _ => ?_)
  clear hK K own6 g6 l6 hbW
  have hn6 : w6.heap[q]? = w2.heap[q]? := by
    rcases HB6.out q (block_lt HC2.out) with h | h
    · exact h
    · exact (HNE.out.2.1 h.symm).elim
  have c8 := (block_cell (hn6.trans HC2.out) 8).trans rfl
  have f8 := block_free (hn6.trans HC2.out) 8
  try simp only [Act.put, List.setIfInBounds_toArray]
  refine Rest.one (i := 14) (by kernel_rfl) rfl (by rfl) (fun K hK => ?_)
  go_simp
  refine hK.out _ _ (fun h => absurd h (by decide)) (fun _ => ?_)
  clear hK K
  try simp only [Act.put, List.setIfInBounds_toArray, List.set_cons_zero, List.set_cons_succ]
  refine Rest.one (i := 15) (by kernel_rfl) rfl (by rfl) (fun K hK => ?_)
  go_simp
  refine hK.out _ _ (fun h => absurd h (by decide)) (fun _ => ?_)
  clear hK K
  try simp only [Act.put, List.setIfInBounds_toArray, List.set_cons_zero, List.set_cons_succ]
  refine Rest.one (i := 16) (by kernel_rfl) rfl (by rfl) (fun K hK => ?_)
  go_simp
  refine hK.out _ _ (fun h => absurd h (by decide)) (fun _ => ?_)
  clear hK K
  try simp only [Act.put, List.setIfInBounds_toArray, List.set_cons_zero, List.set_cons_succ]
  refine Rest.done (by kernel_rfl) ?_
  go_wp2
  go_end0
  have H2 : StAt base q w2 g j k { S with next := id + 1 } := ⟨box_is HC2.out rfl, H1.out.own.other H1.out.ne HO2.out rfl rfl rfl, HQ.out.2, H1.out.ne⟩
  have hg26 : w2.grownBy w6 j.ownBlock := grown_trans (grown_below _ HBW.out) (undrew_grown HG6.out)
  have hl6 := HL6.out
  have hq6 := HQ.out
  have ho6 : w6.ownsRow 0 49 4 (.slice b6 (S.jobs.length + 1) c6) (S.jobs ++ [(⟨id, step, undo, 1⟩ : JobS)]).length (rowR JobS.cells (S.jobs ++ [(⟨id, step, undo, 1⟩ : JobS)])) := by
    rw [List.length_append, rowR_snoc]
    exact HO6.out
  have hbb : ∀ m, (Value.slice b6 (S.jobs.length + 1) c6).ownBlock = some m → j.ownBlock = some m ∨ w2.heap.size ≤ m := fun m hm => by
    rcases hl6 m hm with h | h
    · exact .inl h
    · exact .inr (Nat.le_trans HBW.out.size h)
  refine ⟨rfl, ⟨g, .slice b6 (S.jobs.length + 1) c6, k, H2.newJobs (S' := { S with next := id + 1, jobs := S.jobs ++ [⟨id, step, undo, 1⟩] }) (w' := w6) hg26 ho6 hbb (set_other _ _ _ _) (box_is (cells_set (hn6.trans HC2.out)) rfl) rfl rfl⟩, ?_⟩
  exact (B2.out.grown hg26 (by have := B2.out.size; have := HN2.out; omega) (fun m hm => (H2.own.oj.lt m hm).1)).setCell (p := ⟨q, 8, none⟩) HQ.out.2 _

set_option maxHeartbeats 4000000 in
set_option maxRecDepth 100000 in
theorem change_10 {base q : Nat} {w : World} {g j k : Value} {S : StS} (h : StAt base q w g j k S) {e : EvS} (hev : evB e = true) (hk : e.kind = 10) (hl : S.clocks.length ≤ 1000) (hwt : 0 ≤ (stepG S.prog e.step).wait ∧ (stepG S.prog e.step).wait ≤ 1000) :
    Calls Try.prog 17 #[.pointer (some ⟨q, 0, none⟩), e.val'] w fun x w' => x = .returned (.tuple #[]) ∧ (∃ g' j' k', StAt base q w' g' j' k' { S with next := e.id + 1, clocks := S.clocks ++ [⟨e.id, e.step, e.tick + (stepG S.prog e.step).wait⟩] }) ∧ Below base w w' := by
  have hid := ((evB_iff _).1 hev).id
  have htk := ((evB_iff _).1 hev).tick
  obtain ⟨id, kind, tick, ref, step, tryN, undo, data⟩ := e
  simp only at hid hk htk
  have HKD := Lib.hid hk
  obtain ⟨w1, hw1, b1, E1, hs1⟩ := evBoxed w ⟨id, kind, tick, ref, step, tryN, undo, data⟩
  have H0 := Lib.hid h
  have H1 := Lib.hid (h.later b1)
  have HE1 := Lib.hid E1
  have B1 := Lib.hid b1
  have HQ : Hid (q < w.heap.size ∧ base ≤ q) := ⟨h.box.lt, h.lo⟩
  have f3 := block_free H1.out.box.cells 3
  have q3 := (block_cell H1.out.box.cells 3).trans rfl
  obtain ⟨d0, d1, -⟩ := E1.c
  have hio : IntKind.i64.wrap (id + 1) = id + 1 := IntWalk.i64_in _ ⟨by omega, by omega⟩
  unfold EvS.val'
  simp only at hw1 d0 d1
  subst hk
  clear hev b1 E1 hs1 h
  go_enter Try.func17, Try.ntmps17
  go_upto_region 2 with (fail)
  obtain ⟨w2, hw2⟩ : ∃ w2, w1.setCell ⟨q, 3, none⟩ (.int .i64 (id + 1)) = w2 := ⟨_, rfl⟩
  have HO2 : Hid (∀ m, m ≠ q → w2.heap[m]? = w1.heap[m]?) := by refine Lib.hid ?_; rw [← hw2]; exact set_other _ _ _ _
  have HC2 : Hid (w2.heap[q]? = some (.cells #[g, .int .i64 S.prog.limit, .int .i64 S.status, .int .i64 (id + 1), .int .i64 S.began, .int .i64 S.asked, .int .i64 S.taken, .bool S.fresh, j, k, .bool S.cancel, .bool S.overdue] 30 (0, 0))) := by refine Lib.hid ?_; rw [← hw2]; exact cells_set H1.out.box.cells
  have B2 : Hid (Below base w w2) := by refine Lib.hid ?_; rw [← hw2]; exact (B1.out.mono (by have := HQ.out; omega)).setCell (p := ⟨q, 3, none⟩) HQ.out.2 _
  have HE2 : Hid (EvBox w2 w.heap.size ⟨id, 10, tick, ref, step, tryN, undo, data⟩) := (HO2.out _ (by have := HQ.out; omega)).trans HE1.out
  have HN2 : Hid (w2.heap.size = w1.heap.size ∧ w1.heap.size = w.heap.size + 1) := by refine Lib.hid ⟨?_, ?_⟩; (rw [← hw2]; simp [World.setCell]); (rw [← hw1]; simp)
  (try rw [hw2])
  clear hw2 f3 q3 d0 d1 hio
  obtain ⟨d0, d1, d2, d3, d4, d5, d6, d7⟩ := HE2.out.c
  have s0 := (block_cell HC2.out 0).trans rfl
  have s1 := (block_cell HC2.out 1).trans rfl
  have s2 := (block_cell HC2.out 2).trans rfl
  have s3 := (block_cell HC2.out 3).trans rfl
  have s4 := (block_cell HC2.out 4).trans rfl
  have s5 := (block_cell HC2.out 5).trans rfl
  have s6 := (block_cell HC2.out 6).trans rfl
  have s7 := (block_cell HC2.out 7).trans rfl
  have s8 := (block_cell HC2.out 8).trans rfl
  have s9 := (block_cell HC2.out 9).trans rfl
  have s10 := (block_cell HC2.out 10).trans rfl
  have s11 := (block_cell HC2.out 11).trans rfl
  have f0 := block_free HC2.out 0
  have f1 := block_free HC2.out 1
  have f2 := block_free HC2.out 2
  have f3 := block_free HC2.out 3
  have f4 := block_free HC2.out 4
  have f5 := block_free HC2.out 5
  have f6 := block_free HC2.out 6
  have f7 := block_free HC2.out 7
  have f8 := block_free HC2.out 8
  have f9 := block_free HC2.out 9
  have f10 := block_free HC2.out 10
  have f11 := block_free HC2.out 11
  simp only at d0 d1 d2 d3 d4 d5 d6 d7
  obtain ⟨i0, hi0, hz0, hz1, hz2⟩ := info_parts infoClk
  have HOJ := Lib.hid (ownsRow_base (row_other H1.out.own.ok H1.out.ne.2.2 HO2.out) (Nat.zero_le _))
  have HNE := Lib.hid H1.out.ne
  have HSO := Lib.hid (fun (wx : World) (t : Below w2.heap.size w2 wx) => stepOf_any (w := wx) (j := j) (k := k) { S with next := id + 1 } ((H1.out.own.other (S' := { S with next := id + 1 }) H1.out.ne HO2.out rfl rfl rfl).rg.below t) step)
  simp only at hwt HSO
  unfold StS.val' StepS.val' at HSO
  obtain ⟨G, hG⟩ : ∃ G, stepG S.prog step = G := ⟨_, rfl⟩
  rw [hG] at hwt HSO
  have HGG := Lib.hid hG
  clear hG
  have hfl := step_field5 G
  have hio : IntKind.i64.wrap (tick + G.wait) = tick + G.wait := IntWalk.i64_in _ ⟨by omega, by omega⟩
  have HS : Hid (∀ wx : World, (∀ m, m < w2.heap.size → wx.heap[m]? = w2.heap[m]? ∨ some m = k.ownBlock) → wx.cell? ⟨q, 0, none⟩ = some g ∧ wx.cell? ⟨q, 1, none⟩ = some (.int .i64 S.prog.limit) ∧ wx.cell? ⟨q, 2, none⟩ = some (.int .i64 S.status) ∧ wx.cell? ⟨q, 3, none⟩ = some (.int .i64 (id + 1)) ∧ wx.cell? ⟨q, 4, none⟩ = some (.int .i64 S.began) ∧ wx.cell? ⟨q, 5, none⟩ = some (.int .i64 S.asked) ∧ wx.cell? ⟨q, 6, none⟩ = some (.int .i64 S.taken) ∧ wx.cell? ⟨q, 7, none⟩ = some (.bool S.fresh) ∧ wx.cell? ⟨q, 8, none⟩ = some j ∧ wx.cell? ⟨q, 9, none⟩ = some k ∧ wx.cell? ⟨q, 10, none⟩ = some (.bool S.cancel) ∧ wx.cell? ⟨q, 11, none⟩ = some (.bool S.overdue) ∧ wx.cell? ⟨w.heap.size, 0, none⟩ = some (.int .i64 id) ∧ wx.cell? ⟨w.heap.size, 2, none⟩ = some (.int .i64 tick) ∧ wx.cell? ⟨w.heap.size, 4, none⟩ = some (.int .i64 step)) := fun wx t => by
    have hq : wx.heap[q]? = w2.heap[q]? := by
      rcases t q (block_lt HC2.out) with h | h
      · exact h
      · exact (HNE.out.2.2 h.symm).elim
    have he : wx.heap[w.heap.size]? = w2.heap[w.heap.size]? := by
      rcases t w.heap.size (block_lt HE2.out) with h | h
      · exact h
      · have := (H0.out.own.ok.lt _ h.symm).2; omega
    obtain ⟨e0, -, e2, -, e4, -⟩ := EvBox.c (w := wx) (b := w.heap.size) (he.trans HE2.out)
    have hc := hq.trans HC2.out
    exact ⟨(block_cell hc 0).trans rfl, (block_cell hc 1).trans rfl, (block_cell hc 2).trans rfl, (block_cell hc 3).trans rfl, (block_cell hc 4).trans rfl, (block_cell hc 5).trans rfl, (block_cell hc 6).trans rfl, (block_cell hc 7).trans rfl, (block_cell hc 8).trans rfl, (block_cell hc 9).trans rfl, (block_cell hc 10).trans rfl, (block_cell hc 11).trans rfl, e0, e2, e4⟩
  go_upto_region 22 with (fail)
  clear d0 d1 d2 d3 d4 d5 d6 d7 s0 s1 s2 s3 s4 s5 s6 s7 s8 s9 s10 s11 f0 f1 f2 f3 f4 f5 f6 f7 f8 f9 f10 f11
  refine rest_region (late := [22, 23, 24]) (S := fun wx : World => wx.cell? ⟨q, 0, none⟩ = some g ∧ wx.cell? ⟨q, 1, none⟩ = some (.int .i64 S.prog.limit) ∧ wx.cell? ⟨q, 2, none⟩ = some (.int .i64 S.status) ∧ wx.cell? ⟨q, 3, none⟩ = some (.int .i64 (id + 1)) ∧ wx.cell? ⟨q, 4, none⟩ = some (.int .i64 S.began) ∧ wx.cell? ⟨q, 5, none⟩ = some (.int .i64 S.asked) ∧ wx.cell? ⟨q, 6, none⟩ = some (.int .i64 S.taken) ∧ wx.cell? ⟨q, 7, none⟩ = some (.bool S.fresh) ∧ wx.cell? ⟨q, 8, none⟩ = some j ∧ wx.cell? ⟨q, 9, none⟩ = some k ∧ wx.cell? ⟨q, 10, none⟩ = some (.bool S.cancel) ∧ wx.cell? ⟨q, 11, none⟩ = some (.bool S.overdue) ∧ wx.cell? ⟨w.heap.size, 0, none⟩ = some (.int .i64 id) ∧ wx.cell? ⟨w.heap.size, 2, none⟩ = some (.int .i64 tick) ∧ wx.cell? ⟨w.heap.size, 4, none⟩ = some (.int .i64 step)) (by kernel_rfl) (HS.out _ (fun m hm => .inl rfl)) (fun hHeld => ?_)
  refine Rest.take (i := 0) (v := ?_) rfl (by kernel_rfl) (by kernel_rfl) (by kernel_rfl) (by kernel_rfl) (fun _ _ _ h => h) (Or.inl ⟨by rfl, ?_⟩) (by assumption) ?_
  rotate_left
  · intro w hSw; (try dsimp only at hSw); go_simp; (try with_reducible rfl)
  try simp only [Act.put, List.setIfInBounds_toArray]
  refine Rest.take (i := 1) (v := ?_) rfl (by kernel_rfl) (by kernel_rfl) (by kernel_rfl) (by kernel_rfl) (fun _ _ _ h => h) (Or.inl ⟨by rfl, ?_⟩) (by assumption) ?_
  rotate_left
  · intro w hSw; (try dsimp only at hSw); go_simp; (try with_reducible rfl)
  try simp only [Act.put]
  refine Rest.take (i := 2) (v := ?_) rfl (by kernel_rfl) (by kernel_rfl) (by kernel_rfl) (by kernel_rfl) (fun _ _ _ h => h) (Or.inl ⟨by rfl, ?_⟩) (by assumption) ?_
  rotate_left
  · intro w hSw; (try dsimp only at hSw); go_simp; (try with_reducible rfl)
  try simp only [Act.put]
  refine Rest.take (i := 3) (v := ?_) rfl (by kernel_rfl) (by kernel_rfl) (by kernel_rfl) (by kernel_rfl) (fun _ _ _ h => h) (Or.inl ⟨by rfl, ?_⟩) (by assumption) ?_
  rotate_left
  · intro w hSw; (try dsimp only at hSw); go_simp; (try with_reducible rfl)
  try simp only [Act.put]
  refine Rest.take (i := 4) (v := ?_) rfl (by kernel_rfl) (by kernel_rfl) (by kernel_rfl) (by kernel_rfl) (fun _ _ _ h => h) (Or.inl ⟨by rfl, ?_⟩) (by assumption) ?_
  rotate_left
  · intro w hSw; (try dsimp only at hSw); go_simp; (try with_reducible rfl)
  try simp only [Act.put]
  refine Rest.take (i := 5) (v := ?_) rfl (by kernel_rfl) (by kernel_rfl) (by kernel_rfl) (by kernel_rfl) (fun _ _ _ h => h) (Or.inl ⟨by rfl, ?_⟩) (by assumption) ?_
  rotate_left
  · intro w hSw; (try dsimp only at hSw); go_simp; (try with_reducible rfl)
  try simp only [Act.put]
  refine Rest.take (i := 6) (v := ?_) rfl (by kernel_rfl) (by kernel_rfl) (by kernel_rfl) (by kernel_rfl) (fun _ _ _ h => h) (Or.inl ⟨by rfl, ?_⟩) (by assumption) ?_
  rotate_left
  · intro w hSw; (try dsimp only at hSw); go_simp; (try with_reducible rfl)
  try simp only [Act.put]
  refine Rest.take (i := 7) (v := ?_) rfl (by kernel_rfl) (by kernel_rfl) (by kernel_rfl) (by kernel_rfl) (fun _ _ _ h => h) (Or.inl ⟨by rfl, ?_⟩) (by assumption) ?_
  rotate_left
  · intro w hSw; (try dsimp only at hSw); go_simp; (try with_reducible rfl)
  try simp only [Act.put]
  refine Rest.take (i := 8) (v := ?_) rfl (by kernel_rfl) (by kernel_rfl) (by kernel_rfl) (by kernel_rfl) (fun _ _ _ h => h) (Or.inl ⟨by rfl, ?_⟩) (by assumption) ?_
  rotate_left
  · intro w hSw; (try dsimp only at hSw); go_simp; (try with_reducible rfl)
  try simp only [Act.put]
  refine Rest.take (i := 9) (v := ?_) rfl (by kernel_rfl) (by kernel_rfl) (by kernel_rfl) (by kernel_rfl) (fun _ _ _ h => h) (Or.inl ⟨by rfl, ?_⟩) (by assumption) ?_
  rotate_left
  · intro w hSw; (try dsimp only at hSw); go_simp; (try with_reducible rfl)
  try simp only [Act.put]
  refine Rest.take (i := 10) (v := ?_) rfl (by kernel_rfl) (by kernel_rfl) (by kernel_rfl) (by kernel_rfl) (fun _ _ _ h => h) (Or.inl ⟨by rfl, ?_⟩) (by assumption) ?_
  rotate_left
  · intro w hSw; (try dsimp only at hSw); go_simp; (try with_reducible rfl)
  try simp only [Act.put]
  refine Rest.take (i := 11) (v := ?_) rfl (by kernel_rfl) (by kernel_rfl) (by kernel_rfl) (by kernel_rfl) (fun _ _ _ h => h) (Or.inl ⟨by rfl, ?_⟩) (by assumption) ?_
  rotate_left
  · intro w hSw; (try dsimp only at hSw); go_simp; (try with_reducible rfl)
  try simp only [Act.put]
  refine Rest.take (i := 12) (v := ?_) rfl (by kernel_rfl) (by kernel_rfl) (by kernel_rfl) (by kernel_rfl) (fun _ _ _ h => h) (Or.inl ⟨by rfl, ?_⟩) (by assumption) ?_
  rotate_left
  · intro w hSw; (try dsimp only at hSw); go_simp; (try with_reducible rfl)
  try simp only [Act.put]
  refine Rest.take (i := 13) (v := ?_) rfl (by kernel_rfl) (by kernel_rfl) (by kernel_rfl) (by kernel_rfl) (fun _ _ _ h => h) (Or.inl ⟨by rfl, ?_⟩) (by assumption) ?_
  rotate_left
  · intro w hSw; (try dsimp only at hSw); go_simp; (try with_reducible rfl)
  try simp only [Act.put]
  refine Rest.take (i := 14) (v := ?_) rfl (by kernel_rfl) (by kernel_rfl) (by kernel_rfl) (by kernel_rfl) (fun _ _ _ h => h) (Or.inl ⟨by rfl, ?_⟩) (by assumption) ?_
  rotate_left
  · intro w hSw; (try dsimp only at hSw); go_simp; (try with_reducible rfl)
  try simp only [Act.put]
  refine Rest.take (i := 15) (v := ?_) rfl (by kernel_rfl) (by kernel_rfl) (by kernel_rfl) (by kernel_rfl) (fun _ _ _ h => h) (Or.inl ⟨by rfl, ?_⟩) (by assumption) ?_
  rotate_left
  · intro w hSw; (try dsimp only at hSw); go_simp; (try with_reducible rfl)
  try simp only [Act.put]
  refine Rest.one (i := 16) (by kernel_rfl) rfl (by rfl) (fun K hK => ?_)
  go_simp
  go_at_call 36
  refine (HSO.out _ ((Below.refl _ _).drew)).mono ?_
  rintro e w5 ⟨rfl, b5⟩
  dsimp only
  have hb5 := below_undrew b5
  refine hK.out _ _ (fun _ _ => HS.out _ (fun m hm => .inl (hb5.block m hm))) (fun hX => ?_)
  have hHeld := hX (by decide) hHeld
  clear hK K b5 hX
  try simp only [Act.put, List.setIfInBounds_toArray, List.set_cons_zero, List.set_cons_succ]
  refine Rest.take (i := 17) (v := ?_) rfl (by kernel_rfl) (by kernel_rfl) (by kernel_rfl) (by kernel_rfl) (fun _ _ _ h => h) (Or.inl ⟨by rfl, ?_⟩) (by assumption) ?_
  rotate_left
  · intro w hSw; (try dsimp only at hSw); go_simp; (try with_reducible rfl)
  try simp only [Act.put, List.setIfInBounds_toArray]
  refine Rest.take (i := 18) (v := ?_) rfl (by kernel_rfl) (by kernel_rfl) (by kernel_rfl) (by kernel_rfl) (fun _ _ _ h => h) (Or.inl ⟨by rfl, ?_⟩) (by assumption) ?_
  rotate_left
  · intro w hSw; (try dsimp only at hSw); go_simp; (try with_reducible rfl)
  try simp only [Act.put]
  refine Rest.take (i := 19) (v := ?_) rfl (by kernel_rfl) (by kernel_rfl) (by kernel_rfl) (by kernel_rfl) (fun _ _ _ h => h) (Or.inl ⟨by rfl, ?_⟩) (by assumption) ?_
  rotate_left
  · intro w hSw; (try dsimp only at hSw); go_simp; (try with_reducible rfl)
  try simp only [Act.put]
  refine Rest.one (i := 20) (by kernel_rfl) rfl (by rfl) (fun K hK => ?_)
  go_simp
  have hbW : Below w5.heap.size w5 (w5.alloc (.cells #[.int .i64 id, .int .i64 step, .int .i64 (tick + G.wait)] 51)) := (Below.refl _ _).alloc (Nat.le_refl _) _
  have hb6 := hb5.trans (hbW.mono hb5.size)
  refine hK.out _ _ (fun _ _ => HS.out _ (fun m hm => .inl (hb6.block m hm))) (fun _ => ?_)
  clear hK K hHeld
  try simp only [Act.put, List.setIfInBounds_toArray, List.set_cons_zero, List.set_cons_succ]
  refine Rest.one (i := 21) (by kernel_rfl) rfl (by rfl) (fun K hK => ?_)
  refine step_app1 (w5.alloc (.cells #[.int .i64 id, .int .i64 step, .int .i64 (tick + G.wait)] 51)) (T := 28) (E := 51) (i := i0) (z := .agg #[.int .i64 0, .int .i64 0, .int .i64 0]) (sz := 3) (bytes := 24) (v := k) (n := S.clocks.length) (xs := rowR ClkS.cells S.clocks) (m := 1) (news := ClkS.cells (⟨id, step, tick + G.wait⟩ : ClkS)) (by rfl) (.tmp 123) (.tmp 139) (by rfl) Try.underlying28 hi0 hz0 hz1 hz2 rfl (by decide) (by rfl) (ownsRow_below HOJ.out hb6) (by rfl) (src_new (sz := 3) w5 #[.int .i64 id, .int .i64 step, .int .i64 (tick + G.wait)] 51 rfl (ClkS.one (⟨id, step, tick + G.wait⟩ : ClkS))) (by omega) (by unfold maxLen; omega) ?_
  intro b6 c6 w6 own6 g6 l6
  have HB6 : Hid (∀ m, m < w2.heap.size → w6.heap[m]? = w2.heap[m]? ∨ some m = k.ownBlock) := fun m hm => by
    by_cases hj : some m = k.ownBlock
    · exact .inr hj
    · exact .inl ((g6.block m (Nat.lt_of_lt_of_le hm hb6.size) hj).trans (hb6.block m hm))
  have HO6 := Lib.hid own6
  have HG6 := Lib.hid g6
  have HL6 := Lib.hid l6
  have HBW := Lib.hid hb6
  refine hK.out _ _ (fun _ _ => HS.out _ HB6.out) (fun _ => ?_)
  clear hK K own6 g6 l6 hbW hb5 hb6
  have hn6 : w6.heap[q]? = w2.heap[q]? := by
    rcases HB6.out q (block_lt HC2.out) with h | h
    · exact h
    · exact (HNE.out.2.2 h.symm).elim
  have c9 := (block_cell (hn6.trans HC2.out) 9).trans rfl
  have f9 := block_free (hn6.trans HC2.out) 9
  try simp only [Act.put, List.setIfInBounds_toArray]
  refine Rest.one (i := 22) (by kernel_rfl) rfl (by rfl) (fun K hK => ?_)
  go_simp
  refine hK.out _ _ (fun h => absurd h (by decide)) (fun _ => ?_)
  clear hK K
  try simp only [Act.put, List.setIfInBounds_toArray, List.set_cons_zero, List.set_cons_succ]
  refine Rest.one (i := 23) (by kernel_rfl) rfl (by rfl) (fun K hK => ?_)
  go_simp
  refine hK.out _ _ (fun h => absurd h (by decide)) (fun _ => ?_)
  clear hK K
  try simp only [Act.put, List.setIfInBounds_toArray, List.set_cons_zero, List.set_cons_succ]
  refine Rest.one (i := 24) (by kernel_rfl) rfl (by rfl) (fun K hK => ?_)
  go_simp
  refine hK.out _ _ (fun h => absurd h (by decide)) (fun _ => ?_)
  clear hK K
  try simp only [Act.put, List.setIfInBounds_toArray, List.set_cons_zero, List.set_cons_succ]
  refine Rest.done (by kernel_rfl) ?_
  go_wp2
  go_end0
  have H2 : StAt base q w2 g j k { S with next := id + 1 } := ⟨box_is HC2.out rfl, H1.out.own.other H1.out.ne HO2.out rfl rfl rfl, HQ.out.2, H1.out.ne⟩
  have hg26 : w2.grownBy w6 k.ownBlock := grown_trans (grown_below _ HBW.out) HG6.out
  have hl6 := HL6.out
  have hq6 := HQ.out
  have ho6 : w6.ownsRow 0 51 3 (.slice b6 (S.clocks.length + 1) c6) (S.clocks ++ [(⟨id, step, tick + G.wait⟩ : ClkS)]).length (rowR ClkS.cells (S.clocks ++ [(⟨id, step, tick + G.wait⟩ : ClkS)])) := by
    rw [List.length_append, rowR_snoc]
    exact HO6.out
  have hbb : ∀ m, (Value.slice b6 (S.clocks.length + 1) c6).ownBlock = some m → k.ownBlock = some m ∨ w2.heap.size ≤ m := fun m hm => by
    rcases hl6 m hm with h | h
    · exact .inl h
    · exact .inr (Nat.le_trans HBW.out.size h)
  refine ⟨rfl, ⟨g, j, .slice b6 (S.clocks.length + 1) c6, ?_⟩, ?_⟩
  · show StAt base q _ g j _ { S with next := id + 1, clocks := S.clocks ++ [⟨id, step, tick + (stepG S.prog step).wait⟩] }
    rw [HGG.out]
    exact H2.newClks (S' := { S with next := id + 1, clocks := S.clocks ++ [(⟨id, step, tick + G.wait⟩ : ClkS)] }) (w' := w6) hg26 ho6 hbb (set_other _ _ _ _) (box_is (cells_set (hn6.trans HC2.out)) rfl) rfl rfl
  exact (B2.out.grown hg26 (by have := B2.out.size; have := HN2.out; omega) (fun m hm => (H2.own.ok.lt m hm).1)).setCell (p := ⟨q, 9, none⟩) HQ.out.2 _
end Go.Proofs.Ytlkfpeefjpmmfaa

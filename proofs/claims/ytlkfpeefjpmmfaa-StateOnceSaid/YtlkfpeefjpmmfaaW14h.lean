/- Layer 14: the contract of the program's change, kind by kind: those that set a few cells. -/
import Derived.Test.YtlkfpeefjpmmfaaW14g
namespace Go.Proofs.Ytlkfpeefjpmmfaa
open Go.RowKit
set_option linter.unusedVariables false

/-- A state in its box, all of it the call's own. -/
structure StAt (base q : Nat) (w : World) (g j k : Value) (S : StS) : Prop where
  box : StBox w q g j k S
  own : StOwn base w g j k S
  lo : base ≤ q
  ne : g.ownBlock ≠ some q ∧ j.ownBlock ≠ some q ∧ k.ownBlock ≠ some q
theorem StAt.later {base q : Nat} {w w' : World} {g j k : Value} {S : StS} (h : StAt base q w g j k S) (t : Below w.heap.size w w') : StAt base q w' g j k S := ⟨h.box.later t, h.own.below t, h.lo, h.ne⟩
theorem StOwn.other {base q : Nat} {w w' : World} {g j k : Value} {S S' : StS} (h : StOwn base w g j k S) (hq : g.ownBlock ≠ some q ∧ j.ownBlock ≠ some q ∧ k.ownBlock ≠ some q) (ho : ∀ m, m ≠ q → w'.heap[m]? = w.heap[m]?) (e1 : S'.prog = S.prog) (e2 : S'.jobs = S.jobs) (e3 : S'.clocks = S.clocks) : StOwn base w' g j k S' := by
  have r1 := row_other h.og hq.1 ho
  refine ⟨?_, ?_, ?_, ?_, h.ne⟩
  · rw [e1]; exact ReadG.own r1 h.rg.2.1
  · rw [e1]; exact r1
  · rw [e2]; exact row_other h.oj hq.2.1 ho
  · rw [e3]; exact row_other h.ok hq.2.2 ho
theorem other_set {q i : Nat} {w w' : World} {u : Value} (h : ∀ m, m ≠ q → w'.heap[m]? = w.heap[m]?) : ∀ m, m ≠ q → (w'.setCell ⟨q, i, none⟩ u).heap[m]? = w.heap[m]? := fun m hm => (set_other _ _ _ _ _ hm).trans (h m hm)
theorem cells_set {w : World} {q i : Nat} {A : Array Value} {t : TypeId} {u : Value} (h : w.heap[q]? = some (.cells A t (0, 0))) : (w.setCell ⟨q, i, none⟩ u).heap[q]? = some (.cells (A.setIfInBounds i u) t (0, 0)) := block_set h i u
/-- A list of the state's made anew, or turned in place. -/
theorem StAt.newJobs {base q : Nat} {w w' W : World} {g j k j' : Value} {S S' : StS} (H : StAt base q w g j k S) (hg : w.grownBy w' j.ownBlock) (hr : w'.ownsRow 0 49 4 j' S'.jobs.length (rowR JobS.cells S'.jobs)) (hb : ∀ m, j'.ownBlock = some m → j.ownBlock = some m ∨ w.heap.size ≤ m)
    (ho : ∀ m, m ≠ q → W.heap[m]? = w'.heap[m]?) (hbox : StBox W q g j' k S') (e1 : S'.prog = S.prog) (e3 : S'.clocks = S.clocks) : StAt base q W g j' k S' := by
  have hq := H.box.lt
  have hlo := H.lo
  have hjq : j'.ownBlock ≠ some q := fun h => by
    rcases hb q h with h2 | h2
    · exact H.ne.2.1 h2
    · omega
  have r1 : w'.ownsRow base 53 6 g S.prog.steps.length (rowG S.prog.steps) := H.own.og.kept hg (by
    cases hgb : g.ownBlock with
    | none => exact .inl rfl
    | some b => exact .inr (fun e => (H.own.ne.1 b hgb).1 e.symm))
  have r3 : w'.ownsRow base 51 3 k S.clocks.length (rowR ClkS.cells S.clocks) := H.own.ok.kept hg (by
    cases hkb : k.ownBlock with
    | none => exact .inl rfl
    | some b => exact .inr (fun e => H.own.ne.2 b e.symm hkb))
  have s1 := row_other r1 H.ne.1 ho
  refine ⟨hbox, ⟨?_, ?_, ?_, ?_, ⟨fun b hb1 => ⟨fun hj => ?_, (H.own.ne.1 b hb1).2⟩, fun b hj hk => ?_⟩⟩, H.lo, H.ne.1, hjq, H.ne.2.2⟩
  · rw [e1]; exact ReadG.own s1 H.own.rg.2.1
  · rw [e1]; exact s1
  · refine row_other (ownsRow_up hr fun m hm => ?_) hjq ho
    rcases hb m hm with h | h
    · exact (H.own.oj.lt m h).1
    · omega
  · rw [e3]; exact row_other r3 H.ne.2.2 ho
  · rcases hb b hj with h | h
    · exact (H.own.ne.1 b hb1).1 h
    · have := (H.own.og.lt b hb1).2; omega
  · rcases hb b hj with h | h
    · exact H.own.ne.2 b h hk
    · have := (H.own.ok.lt b hk).2; omega
theorem StAt.newClks {base q : Nat} {w w' W : World} {g j k k' : Value} {S S' : StS} (H : StAt base q w g j k S) (hg : w.grownBy w' k.ownBlock) (hr : w'.ownsRow 0 51 3 k' S'.clocks.length (rowR ClkS.cells S'.clocks)) (hb : ∀ m, k'.ownBlock = some m → k.ownBlock = some m ∨ w.heap.size ≤ m)
    (ho : ∀ m, m ≠ q → W.heap[m]? = w'.heap[m]?) (hbox : StBox W q g j k' S') (e1 : S'.prog = S.prog) (e3 : S'.jobs = S.jobs) : StAt base q W g j k' S' := by
  have hq := H.box.lt
  have hlo := H.lo
  have hkq : k'.ownBlock ≠ some q := fun h => by
    rcases hb q h with h2 | h2
    · exact H.ne.2.2 h2
    · omega
  have r1 : w'.ownsRow base 53 6 g S.prog.steps.length (rowG S.prog.steps) := H.own.og.kept hg (by
    cases hgb : g.ownBlock with
    | none => exact .inl rfl
    | some b => exact .inr (fun e => (H.own.ne.1 b hgb).2 e.symm))
  have r3 : w'.ownsRow base 49 4 j S.jobs.length (rowR JobS.cells S.jobs) := H.own.oj.kept hg (by
    cases hjb : j.ownBlock with
    | none => exact .inl rfl
    | some b => exact .inr (fun e => H.own.ne.2 b hjb e.symm))
  have s1 := row_other r1 H.ne.1 ho
  refine ⟨hbox, ⟨?_, ?_, ?_, ?_, ⟨fun b hb1 => ⟨(H.own.ne.1 b hb1).1, fun hk => ?_⟩, fun b hj hk => ?_⟩⟩, H.lo, H.ne.1, H.ne.2.1, hkq⟩
  · rw [e1]; exact ReadG.own s1 H.own.rg.2.1
  · rw [e1]; exact s1
  · rw [e3]; exact row_other r3 H.ne.2.1 ho
  · refine row_other (ownsRow_up hr fun m hm => ?_) hkq ho
    rcases hb m hm with h | h
    · exact (H.own.ok.lt m h).1
    · omega
  · rcases hb b hk with h | h
    · exact (H.own.ne.1 b hb1).2 h
    · have := (H.own.og.lt b hb1).2; omega
  · rcases hb b hk with h | h
    · exact H.own.ne.2 b hj h
    · have := (H.own.oj.lt b hj).2; omega
theorem box_is {w : World} {q : Nat} {g j k : Value} {S : StS} {A : Array Value} (h : w.heap[q]? = some (.cells A 30 (0, 0))) (e : A = S.arr g j k) : StBox w q g j k S := by
  rw [e] at h
  exact h

set_option maxHeartbeats 4000000 in
set_option maxRecDepth 100000 in
theorem change_2 {base q : Nat} {w : World} {g j k : Value} {S : StS} (h : StAt base q w g j k S) {e : EvS} (hev : evB e = true) (hk : e.kind = 2) :
    Calls Try.prog 17 #[.pointer (some ⟨q, 0, none⟩), e.val'] w fun x w' => x = .returned (.tuple #[]) ∧ (∃ g' j' k', StAt base q w' g' j' k' { S with next := e.id + 1, asked := e.id }) ∧ Below base w w' := by
  have hid := ((evB_iff _).1 hev).id
  have htk := ((evB_iff _).1 hev).tick
  obtain ⟨id, kind, tick, ref, step, tryN, undo, data⟩ := e
  simp only at hid hk htk
  have HKD := Lib.hid hk
  obtain ⟨w1, hw1, b1, E1, hs1⟩ := evBoxed w ⟨id, kind, tick, ref, step, tryN, undo, data⟩
  have H0 := Lib.hid h
  have H1 := Lib.hid (h.later b1)
  have HE1 := Lib.hid E1
  have B1 := Lib.hid b1
  have HQ : Hid (q < w.heap.size ∧ base ≤ q) := ⟨h.box.lt, h.lo⟩
  have f3 := block_free H1.out.box.cells 3
  have q3 := (block_cell H1.out.box.cells 3).trans rfl
  obtain ⟨d0, d1, -⟩ := E1.c
  have hio : IntKind.i64.wrap (id + 1) = id + 1 := IntWalk.i64_in _ ⟨by omega, by omega⟩
  unfold EvS.val'
  simp only at hw1 d0 d1
  subst hk
  clear hev b1 E1 hs1 h
  go_enter Try.func17, Try.ntmps17
  go_upto_region 2 with (fail)
  obtain ⟨w2, hw2⟩ : ∃ w2, w1.setCell ⟨q, 3, none⟩ (.int .i64 (id + 1)) = w2 := ⟨_, rfl⟩
  have HO2 : Hid (∀ m, m ≠ q → w2.heap[m]? = w1.heap[m]?) := by refine Lib.hid ?_; rw [← hw2]; exact set_other _ _ _ _
  have HC2 : Hid (w2.heap[q]? = some (.cells #[g, .int .i64 S.prog.limit, .int .i64 S.status, .int .i64 (id + 1), .int .i64 S.began, .int .i64 S.asked, .int .i64 S.taken, .bool S.fresh, j, k, .bool S.cancel, .bool S.overdue] 30 (0, 0))) := by refine Lib.hid ?_; rw [← hw2]; exact cells_set H1.out.box.cells
  have B2 : Hid (Below base w w2) := by refine Lib.hid ?_; rw [← hw2]; exact (B1.out.mono (by have := HQ.out; omega)).setCell (p := ⟨q, 3, none⟩) HQ.out.2 _
  have HE2 : Hid (EvBox w2 w.heap.size ⟨id, 2, tick, ref, step, tryN, undo, data⟩) := (HO2.out _ (by have := HQ.out; omega)).trans HE1.out
  have HN2 : Hid (w2.heap.size = w1.heap.size ∧ w1.heap.size = w.heap.size + 1) := by refine Lib.hid ⟨?_, ?_⟩; (rw [← hw2]; simp [World.setCell]); (rw [← hw1]; simp)
  (try rw [hw2])
  clear hw2 f3 q3 d0 d1 hio
  obtain ⟨d0, d1, d2, d3, d4, d5, d6, d7⟩ := HE2.out.c
  have s0 := (block_cell HC2.out 0).trans rfl
  have s1 := (block_cell HC2.out 1).trans rfl
  have s2 := (block_cell HC2.out 2).trans rfl
  have s3 := (block_cell HC2.out 3).trans rfl
  have s4 := (block_cell HC2.out 4).trans rfl
  have s5 := (block_cell HC2.out 5).trans rfl
  have s6 := (block_cell HC2.out 6).trans rfl
  have s7 := (block_cell HC2.out 7).trans rfl
  have s8 := (block_cell HC2.out 8).trans rfl
  have s9 := (block_cell HC2.out 9).trans rfl
  have s10 := (block_cell HC2.out 10).trans rfl
  have s11 := (block_cell HC2.out 11).trans rfl
  have f0 := block_free HC2.out 0
  have f1 := block_free HC2.out 1
  have f2 := block_free HC2.out 2
  have f3 := block_free HC2.out 3
  have f4 := block_free HC2.out 4
  have f5 := block_free HC2.out 5
  have f6 := block_free HC2.out 6
  have f7 := block_free HC2.out 7
  have f8 := block_free HC2.out 8
  have f9 := block_free HC2.out 9
  have f10 := block_free HC2.out 10
  have f11 := block_free HC2.out 11
  simp only at d0 d1 d2 d3 d4 d5 d6 d7
  go_wp2
  go_end0
  refine ⟨rfl, ⟨g, j, k, box_is (cells_set HC2.out) rfl, H1.out.own.other (q := q) H1.out.ne ?_ rfl rfl rfl, HQ.out.2, H1.out.ne⟩, ((B2.out.setCell (p := ⟨q, 5, none⟩) HQ.out.2 _))⟩
  exact fun m hm => ((other_set (fun _ _ => rfl)) m hm).trans (HO2.out m hm)

set_option maxHeartbeats 4000000 in
set_option maxRecDepth 100000 in
theorem change_4 {base q : Nat} {w : World} {g j k : Value} {S : StS} (h : StAt base q w g j k S) {e : EvS} (hev : evB e = true) (hk : e.kind = 4) :
    Calls Try.prog 17 #[.pointer (some ⟨q, 0, none⟩), e.val'] w fun x w' => x = .returned (.tuple #[]) ∧ (∃ g' j' k', StAt base q w' g' j' k' { S with next := e.id + 1, taken := 0 }) ∧ Below base w w' := by
  have hid := ((evB_iff _).1 hev).id
  have htk := ((evB_iff _).1 hev).tick
  obtain ⟨id, kind, tick, ref, step, tryN, undo, data⟩ := e
  simp only at hid hk htk
  have HKD := Lib.hid hk
  obtain ⟨w1, hw1, b1, E1, hs1⟩ := evBoxed w ⟨id, kind, tick, ref, step, tryN, undo, data⟩
  have H0 := Lib.hid h
  have H1 := Lib.hid (h.later b1)
  have HE1 := Lib.hid E1
  have B1 := Lib.hid b1
  have HQ : Hid (q < w.heap.size ∧ base ≤ q) := ⟨h.box.lt, h.lo⟩
  have f3 := block_free H1.out.box.cells 3
  have q3 := (block_cell H1.out.box.cells 3).trans rfl
  obtain ⟨d0, d1, -⟩ := E1.c
  have hio : IntKind.i64.wrap (id + 1) = id + 1 := IntWalk.i64_in _ ⟨by omega, by omega⟩
  unfold EvS.val'
  simp only at hw1 d0 d1
  subst hk
  clear hev b1 E1 hs1 h
  go_enter Try.func17, Try.ntmps17
  go_upto_region 2 with (fail)
  obtain ⟨w2, hw2⟩ : ∃ w2, w1.setCell ⟨q, 3, none⟩ (.int .i64 (id + 1)) = w2 := ⟨_, rfl⟩
  have HO2 : Hid (∀ m, m ≠ q → w2.heap[m]? = w1.heap[m]?) := by refine Lib.hid ?_; rw [← hw2]; exact set_other _ _ _ _
  have HC2 : Hid (w2.heap[q]? = some (.cells #[g, .int .i64 S.prog.limit, .int .i64 S.status, .int .i64 (id + 1), .int .i64 S.began, .int .i64 S.asked, .int .i64 S.taken, .bool S.fresh, j, k, .bool S.cancel, .bool S.overdue] 30 (0, 0))) := by refine Lib.hid ?_; rw [← hw2]; exact cells_set H1.out.box.cells
  have B2 : Hid (Below base w w2) := by refine Lib.hid ?_; rw [← hw2]; exact (B1.out.mono (by have := HQ.out; omega)).setCell (p := ⟨q, 3, none⟩) HQ.out.2 _
  have HE2 : Hid (EvBox w2 w.heap.size ⟨id, 4, tick, ref, step, tryN, undo, data⟩) := (HO2.out _ (by have := HQ.out; omega)).trans HE1.out
  have HN2 : Hid (w2.heap.size = w1.heap.size ∧ w1.heap.size = w.heap.size + 1) := by refine Lib.hid ⟨?_, ?_⟩; (rw [← hw2]; simp [World.setCell]); (rw [← hw1]; simp)
  (try rw [hw2])
  clear hw2 f3 q3 d0 d1 hio
  obtain ⟨d0, d1, d2, d3, d4, d5, d6, d7⟩ := HE2.out.c
  have s0 := (block_cell HC2.out 0).trans rfl
  have s1 := (block_cell HC2.out 1).trans rfl
  have s2 := (block_cell HC2.out 2).trans rfl
  have s3 := (block_cell HC2.out 3).trans rfl
  have s4 := (block_cell HC2.out 4).trans rfl
  have s5 := (block_cell HC2.out 5).trans rfl
  have s6 := (block_cell HC2.out 6).trans rfl
  have s7 := (block_cell HC2.out 7).trans rfl
  have s8 := (block_cell HC2.out 8).trans rfl
  have s9 := (block_cell HC2.out 9).trans rfl
  have s10 := (block_cell HC2.out 10).trans rfl
  have s11 := (block_cell HC2.out 11).trans rfl
  have f0 := block_free HC2.out 0
  have f1 := block_free HC2.out 1
  have f2 := block_free HC2.out 2
  have f3 := block_free HC2.out 3
  have f4 := block_free HC2.out 4
  have f5 := block_free HC2.out 5
  have f6 := block_free HC2.out 6
  have f7 := block_free HC2.out 7
  have f8 := block_free HC2.out 8
  have f9 := block_free HC2.out 9
  have f10 := block_free HC2.out 10
  have f11 := block_free HC2.out 11
  simp only at d0 d1 d2 d3 d4 d5 d6 d7
  go_wp2
  go_end0
  refine ⟨rfl, ⟨g, j, k, box_is (cells_set HC2.out) rfl, H1.out.own.other (q := q) H1.out.ne ?_ rfl rfl rfl, HQ.out.2, H1.out.ne⟩, ((B2.out.setCell (p := ⟨q, 6, none⟩) HQ.out.2 _))⟩
  exact fun m hm => ((other_set (fun _ _ => rfl)) m hm).trans (HO2.out m hm)

set_option maxHeartbeats 4000000 in
set_option maxRecDepth 100000 in
theorem change_5 {base q : Nat} {w : World} {g j k : Value} {S : StS} (h : StAt base q w g j k S) {e : EvS} (hev : evB e = true) (hk : e.kind = 5) :
    Calls Try.prog 17 #[.pointer (some ⟨q, 0, none⟩), e.val'] w fun x w' => x = .returned (.tuple #[]) ∧ (∃ g' j' k', StAt base q w' g' j' k' { S with next := e.id + 1, taken := 0, fresh := true }) ∧ Below base w w' := by
  have hid := ((evB_iff _).1 hev).id
  have htk := ((evB_iff _).1 hev).tick
  obtain ⟨id, kind, tick, ref, step, tryN, undo, data⟩ := e
  simp only at hid hk htk
  have HKD := Lib.hid hk
  obtain ⟨w1, hw1, b1, E1, hs1⟩ := evBoxed w ⟨id, kind, tick, ref, step, tryN, undo, data⟩
  have H0 := Lib.hid h
  have H1 := Lib.hid (h.later b1)
  have HE1 := Lib.hid E1
  have B1 := Lib.hid b1
  have HQ : Hid (q < w.heap.size ∧ base ≤ q) := ⟨h.box.lt, h.lo⟩
  have f3 := block_free H1.out.box.cells 3
  have q3 := (block_cell H1.out.box.cells 3).trans rfl
  obtain ⟨d0, d1, -⟩ := E1.c
  have hio : IntKind.i64.wrap (id + 1) = id + 1 := IntWalk.i64_in _ ⟨by omega, by omega⟩
  unfold EvS.val'
  simp only at hw1 d0 d1
  subst hk
  clear hev b1 E1 hs1 h
  go_enter Try.func17, Try.ntmps17
  go_upto_region 2 with (fail)
  obtain ⟨w2, hw2⟩ : ∃ w2, w1.setCell ⟨q, 3, none⟩ (.int .i64 (id + 1)) = w2 := ⟨_, rfl⟩
  have HO2 : Hid (∀ m, m ≠ q → w2.heap[m]? = w1.heap[m]?) := by refine Lib.hid ?_; rw [← hw2]; exact set_other _ _ _ _
  have HC2 : Hid (w2.heap[q]? = some (.cells #[g, .int .i64 S.prog.limit, .int .i64 S.status, .int .i64 (id + 1), .int .i64 S.began, .int .i64 S.asked, .int .i64 S.taken, .bool S.fresh, j, k, .bool S.cancel, .bool S.overdue] 30 (0, 0))) := by refine Lib.hid ?_; rw [← hw2]; exact cells_set H1.out.box.cells
  have B2 : Hid (Below base w w2) := by refine Lib.hid ?_; rw [← hw2]; exact (B1.out.mono (by have := HQ.out; omega)).setCell (p := ⟨q, 3, none⟩) HQ.out.2 _
  have HE2 : Hid (EvBox w2 w.heap.size ⟨id, 5, tick, ref, step, tryN, undo, data⟩) := (HO2.out _ (by have := HQ.out; omega)).trans HE1.out
  have HN2 : Hid (w2.heap.size = w1.heap.size ∧ w1.heap.size = w.heap.size + 1) := by refine Lib.hid ⟨?_, ?_⟩; (rw [← hw2]; simp [World.setCell]); (rw [← hw1]; simp)
  (try rw [hw2])
  clear hw2 f3 q3 d0 d1 hio
  obtain ⟨d0, d1, d2, d3, d4, d5, d6, d7⟩ := HE2.out.c
  have s0 := (block_cell HC2.out 0).trans rfl
  have s1 := (block_cell HC2.out 1).trans rfl
  have s2 := (block_cell HC2.out 2).trans rfl
  have s3 := (block_cell HC2.out 3).trans rfl
  have s4 := (block_cell HC2.out 4).trans rfl
  have s5 := (block_cell HC2.out 5).trans rfl
  have s6 := (block_cell HC2.out 6).trans rfl
  have s7 := (block_cell HC2.out 7).trans rfl
  have s8 := (block_cell HC2.out 8).trans rfl
  have s9 := (block_cell HC2.out 9).trans rfl
  have s10 := (block_cell HC2.out 10).trans rfl
  have s11 := (block_cell HC2.out 11).trans rfl
  have f0 := block_free HC2.out 0
  have f1 := block_free HC2.out 1
  have f2 := block_free HC2.out 2
  have f3 := block_free HC2.out 3
  have f4 := block_free HC2.out 4
  have f5 := block_free HC2.out 5
  have f6 := block_free HC2.out 6
  have f7 := block_free HC2.out 7
  have f8 := block_free HC2.out 8
  have f9 := block_free HC2.out 9
  have f10 := block_free HC2.out 10
  have f11 := block_free HC2.out 11
  simp only at d0 d1 d2 d3 d4 d5 d6 d7
  go_wp2
  go_end0
  refine ⟨rfl, ⟨g, j, k, box_is (cells_set (cells_set HC2.out)) rfl, H1.out.own.other (q := q) H1.out.ne ?_ rfl rfl rfl, HQ.out.2, H1.out.ne⟩, (((B2.out.setCell (p := ⟨q, 6, none⟩) HQ.out.2 _).setCell (p := ⟨q, 7, none⟩) HQ.out.2 _))⟩
  exact fun m hm => ((other_set (other_set (fun _ _ => rfl))) m hm).trans (HO2.out m hm)

set_option maxHeartbeats 4000000 in
set_option maxRecDepth 100000 in
theorem change_12 {base q : Nat} {w : World} {g j k : Value} {S : StS} (h : StAt base q w g j k S) {e : EvS} (hev : evB e = true) (hk : e.kind = 12) :
    Calls Try.prog 17 #[.pointer (some ⟨q, 0, none⟩), e.val'] w fun x w' => x = .returned (.tuple #[]) ∧ (∃ g' j' k', StAt base q w' g' j' k' { S with next := e.id + 1, fresh := true }) ∧ Below base w w' := by
  have hid := ((evB_iff _).1 hev).id
  have htk := ((evB_iff _).1 hev).tick
  obtain ⟨id, kind, tick, ref, step, tryN, undo, data⟩ := e
  simp only at hid hk htk
  have HKD := Lib.hid hk
  obtain ⟨w1, hw1, b1, E1, hs1⟩ := evBoxed w ⟨id, kind, tick, ref, step, tryN, undo, data⟩
  have H0 := Lib.hid h
  have H1 := Lib.hid (h.later b1)
  have HE1 := Lib.hid E1
  have B1 := Lib.hid b1
  have HQ : Hid (q < w.heap.size ∧ base ≤ q) := ⟨h.box.lt, h.lo⟩
  have f3 := block_free H1.out.box.cells 3
  have q3 := (block_cell H1.out.box.cells 3).trans rfl
  obtain ⟨d0, d1, -⟩ := E1.c
  have hio : IntKind.i64.wrap (id + 1) = id + 1 := IntWalk.i64_in _ ⟨by omega, by omega⟩
  unfold EvS.val'
  simp only at hw1 d0 d1
  subst hk
  clear hev b1 E1 hs1 h
  go_enter Try.func17, Try.ntmps17
  go_upto_region 2 with (fail)
  obtain ⟨w2, hw2⟩ : ∃ w2, w1.setCell ⟨q, 3, none⟩ (.int .i64 (id + 1)) = w2 := ⟨_, rfl⟩
  have HO2 : Hid (∀ m, m ≠ q → w2.heap[m]? = w1.heap[m]?) := by refine Lib.hid ?_; rw [← hw2]; exact set_other _ _ _ _
  have HC2 : Hid (w2.heap[q]? = some (.cells #[g, .int .i64 S.prog.limit, .int .i64 S.status, .int .i64 (id + 1), .int .i64 S.began, .int .i64 S.asked, .int .i64 S.taken, .bool S.fresh, j, k, .bool S.cancel, .bool S.overdue] 30 (0, 0))) := by refine Lib.hid ?_; rw [← hw2]; exact cells_set H1.out.box.cells
  have B2 : Hid (Below base w w2) := by refine Lib.hid ?_; rw [← hw2]; exact (B1.out.mono (by have := HQ.out; omega)).setCell (p := ⟨q, 3, none⟩) HQ.out.2 _
  have HE2 : Hid (EvBox w2 w.heap.size ⟨id, 12, tick, ref, step, tryN, undo, data⟩) := (HO2.out _ (by have := HQ.out; omega)).trans HE1.out
  have HN2 : Hid (w2.heap.size = w1.heap.size ∧ w1.heap.size = w.heap.size + 1) := by refine Lib.hid ⟨?_, ?_⟩; (rw [← hw2]; simp [World.setCell]); (rw [← hw1]; simp)
  (try rw [hw2])
  clear hw2 f3 q3 d0 d1 hio
  obtain ⟨d0, d1, d2, d3, d4, d5, d6, d7⟩ := HE2.out.c
  have s0 := (block_cell HC2.out 0).trans rfl
  have s1 := (block_cell HC2.out 1).trans rfl
  have s2 := (block_cell HC2.out 2).trans rfl
  have s3 := (block_cell HC2.out 3).trans rfl
  have s4 := (block_cell HC2.out 4).trans rfl
  have s5 := (block_cell HC2.out 5).trans rfl
  have s6 := (block_cell HC2.out 6).trans rfl
  have s7 := (block_cell HC2.out 7).trans rfl
  have s8 := (block_cell HC2.out 8).trans rfl
  have s9 := (block_cell HC2.out 9).trans rfl
  have s10 := (block_cell HC2.out 10).trans rfl
  have s11 := (block_cell HC2.out 11).trans rfl
  have f0 := block_free HC2.out 0
  have f1 := block_free HC2.out 1
  have f2 := block_free HC2.out 2
  have f3 := block_free HC2.out 3
  have f4 := block_free HC2.out 4
  have f5 := block_free HC2.out 5
  have f6 := block_free HC2.out 6
  have f7 := block_free HC2.out 7
  have f8 := block_free HC2.out 8
  have f9 := block_free HC2.out 9
  have f10 := block_free HC2.out 10
  have f11 := block_free HC2.out 11
  simp only at d0 d1 d2 d3 d4 d5 d6 d7
  go_wp2
  go_end0
  refine ⟨rfl, ⟨g, j, k, box_is (cells_set HC2.out) rfl, H1.out.own.other (q := q) H1.out.ne ?_ rfl rfl rfl, HQ.out.2, H1.out.ne⟩, ((B2.out.setCell (p := ⟨q, 7, none⟩) HQ.out.2 _))⟩
  exact fun m hm => ((other_set (fun _ _ => rfl)) m hm).trans (HO2.out m hm)

set_option maxHeartbeats 4000000 in
set_option maxRecDepth 100000 in
theorem change_13 {base q : Nat} {w : World} {g j k : Value} {S : StS} (h : StAt base q w g j k S) {e : EvS} (hev : evB e = true) (hk : e.kind = 13) :
    Calls Try.prog 17 #[.pointer (some ⟨q, 0, none⟩), e.val'] w fun x w' => x = .returned (.tuple #[]) ∧ (∃ g' j' k', StAt base q w' g' j' k' { S with next := e.id + 1, cancel := true, fresh := true }) ∧ Below base w w' := by
  have hid := ((evB_iff _).1 hev).id
  have htk := ((evB_iff _).1 hev).tick
  obtain ⟨id, kind, tick, ref, step, tryN, undo, data⟩ := e
  simp only at hid hk htk
  have HKD := Lib.hid hk
  obtain ⟨w1, hw1, b1, E1, hs1⟩ := evBoxed w ⟨id, kind, tick, ref, step, tryN, undo, data⟩
  have H0 := Lib.hid h
  have H1 := Lib.hid (h.later b1)
  have HE1 := Lib.hid E1
  have B1 := Lib.hid b1
  have HQ : Hid (q < w.heap.size ∧ base ≤ q) := ⟨h.box.lt, h.lo⟩
  have f3 := block_free H1.out.box.cells 3
  have q3 := (block_cell H1.out.box.cells 3).trans rfl
  obtain ⟨d0, d1, -⟩ := E1.c
  have hio : IntKind.i64.wrap (id + 1) = id + 1 := IntWalk.i64_in _ ⟨by omega, by omega⟩
  unfold EvS.val'
  simp only at hw1 d0 d1
  subst hk
  clear hev b1 E1 hs1 h
  go_enter Try.func17, Try.ntmps17
  go_upto_region 2 with (fail)
  obtain ⟨w2, hw2⟩ : ∃ w2, w1.setCell ⟨q, 3, none⟩ (.int .i64 (id + 1)) = w2 := ⟨_, rfl⟩
  have HO2 : Hid (∀ m, m ≠ q → w2.heap[m]? = w1.heap[m]?) := by refine Lib.hid ?_; rw [← hw2]; exact set_other _ _ _ _
  have HC2 : Hid (w2.heap[q]? = some (.cells #[g, .int .i64 S.prog.limit, .int .i64 S.status, .int .i64 (id + 1), .int .i64 S.began, .int .i64 S.asked, .int .i64 S.taken, .bool S.fresh, j, k, .bool S.cancel, .bool S.overdue] 30 (0, 0))) := by refine Lib.hid ?_; rw [← hw2]; exact cells_set H1.out.box.cells
  have B2 : Hid (Below base w w2) := by refine Lib.hid ?_; rw [← hw2]; exact (B1.out.mono (by have := HQ.out; omega)).setCell (p := ⟨q, 3, none⟩) HQ.out.2 _
  have HE2 : Hid (EvBox w2 w.heap.size ⟨id, 13, tick, ref, step, tryN, undo, data⟩) := (HO2.out _ (by have := HQ.out; omega)).trans HE1.out
  have HN2 : Hid (w2.heap.size = w1.heap.size ∧ w1.heap.size = w.heap.size + 1) := by refine Lib.hid ⟨?_, ?_⟩; (rw [← hw2]; simp [World.setCell]); (rw [← hw1]; simp)
  (try rw [hw2])
  clear hw2 f3 q3 d0 d1 hio
  obtain ⟨d0, d1, d2, d3, d4, d5, d6, d7⟩ := HE2.out.c
  have s0 := (block_cell HC2.out 0).trans rfl
  have s1 := (block_cell HC2.out 1).trans rfl
  have s2 := (block_cell HC2.out 2).trans rfl
  have s3 := (block_cell HC2.out 3).trans rfl
  have s4 := (block_cell HC2.out 4).trans rfl
  have s5 := (block_cell HC2.out 5).trans rfl
  have s6 := (block_cell HC2.out 6).trans rfl
  have s7 := (block_cell HC2.out 7).trans rfl
  have s8 := (block_cell HC2.out 8).trans rfl
  have s9 := (block_cell HC2.out 9).trans rfl
  have s10 := (block_cell HC2.out 10).trans rfl
  have s11 := (block_cell HC2.out 11).trans rfl
  have f0 := block_free HC2.out 0
  have f1 := block_free HC2.out 1
  have f2 := block_free HC2.out 2
  have f3 := block_free HC2.out 3
  have f4 := block_free HC2.out 4
  have f5 := block_free HC2.out 5
  have f6 := block_free HC2.out 6
  have f7 := block_free HC2.out 7
  have f8 := block_free HC2.out 8
  have f9 := block_free HC2.out 9
  have f10 := block_free HC2.out 10
  have f11 := block_free HC2.out 11
  simp only at d0 d1 d2 d3 d4 d5 d6 d7
  go_wp2
  go_end0
  refine ⟨rfl, ⟨g, j, k, box_is (cells_set (cells_set HC2.out)) rfl, H1.out.own.other (q := q) H1.out.ne ?_ rfl rfl rfl, HQ.out.2, H1.out.ne⟩, (((B2.out.setCell (p := ⟨q, 10, none⟩) HQ.out.2 _).setCell (p := ⟨q, 7, none⟩) HQ.out.2 _))⟩
  exact fun m hm => ((other_set (other_set (fun _ _ => rfl))) m hm).trans (HO2.out m hm)

set_option maxHeartbeats 4000000 in
set_option maxRecDepth 100000 in
theorem change_14 {base q : Nat} {w : World} {g j k : Value} {S : StS} (h : StAt base q w g j k S) {e : EvS} (hev : evB e = true) (hk : e.kind = 14) :
    Calls Try.prog 17 #[.pointer (some ⟨q, 0, none⟩), e.val'] w fun x w' => x = .returned (.tuple #[]) ∧ (∃ g' j' k', StAt base q w' g' j' k' { S with next := e.id + 1, overdue := true, fresh := true }) ∧ Below base w w' := by
  have hid := ((evB_iff _).1 hev).id
  have htk := ((evB_iff _).1 hev).tick
  obtain ⟨id, kind, tick, ref, step, tryN, undo, data⟩ := e
  simp only at hid hk htk
  have HKD := Lib.hid hk
  obtain ⟨w1, hw1, b1, E1, hs1⟩ := evBoxed w ⟨id, kind, tick, ref, step, tryN, undo, data⟩
  have H0 := Lib.hid h
  have H1 := Lib.hid (h.later b1)
  have HE1 := Lib.hid E1
  have B1 := Lib.hid b1
  have HQ : Hid (q < w.heap.size ∧ base ≤ q) := ⟨h.box.lt, h.lo⟩
  have f3 := block_free H1.out.box.cells 3
  have q3 := (block_cell H1.out.box.cells 3).trans rfl
  obtain ⟨d0, d1, -⟩ := E1.c
  have hio : IntKind.i64.wrap (id + 1) = id + 1 := IntWalk.i64_in _ ⟨by omega, by omega⟩
  unfold EvS.val'
  simp only at hw1 d0 d1
  subst hk
  clear hev b1 E1 hs1 h
  go_enter Try.func17, Try.ntmps17
  go_upto_region 2 with (fail)
  obtain ⟨w2, hw2⟩ : ∃ w2, w1.setCell ⟨q, 3, none⟩ (.int .i64 (id + 1)) = w2 := ⟨_, rfl⟩
  have HO2 : Hid (∀ m, m ≠ q → w2.heap[m]? = w1.heap[m]?) := by refine Lib.hid ?_; rw [← hw2]; exact set_other _ _ _ _
  have HC2 : Hid (w2.heap[q]? = some (.cells #[g, .int .i64 S.prog.limit, .int .i64 S.status, .int .i64 (id + 1), .int .i64 S.began, .int .i64 S.asked, .int .i64 S.taken, .bool S.fresh, j, k, .bool S.cancel, .bool S.overdue] 30 (0, 0))) := by refine Lib.hid ?_; rw [← hw2]; exact cells_set H1.out.box.cells
  have B2 : Hid (Below base w w2) := by refine Lib.hid ?_; rw [← hw2]; exact (B1.out.mono (by have := HQ.out; omega)).setCell (p := ⟨q, 3, none⟩) HQ.out.2 _
  have HE2 : Hid (EvBox w2 w.heap.size ⟨id, 14, tick, ref, step, tryN, undo, data⟩) := (HO2.out _ (by have := HQ.out; omega)).trans HE1.out
  have HN2 : Hid (w2.heap.size = w1.heap.size ∧ w1.heap.size = w.heap.size + 1) := by refine Lib.hid ⟨?_, ?_⟩; (rw [← hw2]; simp [World.setCell]); (rw [← hw1]; simp)
  (try rw [hw2])
  clear hw2 f3 q3 d0 d1 hio
  obtain ⟨d0, d1, d2, d3, d4, d5, d6, d7⟩ := HE2.out.c
  have s0 := (block_cell HC2.out 0).trans rfl
  have s1 := (block_cell HC2.out 1).trans rfl
  have s2 := (block_cell HC2.out 2).trans rfl
  have s3 := (block_cell HC2.out 3).trans rfl
  have s4 := (block_cell HC2.out 4).trans rfl
  have s5 := (block_cell HC2.out 5).trans rfl
  have s6 := (block_cell HC2.out 6).trans rfl
  have s7 := (block_cell HC2.out 7).trans rfl
  have s8 := (block_cell HC2.out 8).trans rfl
  have s9 := (block_cell HC2.out 9).trans rfl
  have s10 := (block_cell HC2.out 10).trans rfl
  have s11 := (block_cell HC2.out 11).trans rfl
  have f0 := block_free HC2.out 0
  have f1 := block_free HC2.out 1
  have f2 := block_free HC2.out 2
  have f3 := block_free HC2.out 3
  have f4 := block_free HC2.out 4
  have f5 := block_free HC2.out 5
  have f6 := block_free HC2.out 6
  have f7 := block_free HC2.out 7
  have f8 := block_free HC2.out 8
  have f9 := block_free HC2.out 9
  have f10 := block_free HC2.out 10
  have f11 := block_free HC2.out 11
  simp only at d0 d1 d2 d3 d4 d5 d6 d7
  go_wp2
  go_end0
  refine ⟨rfl, ⟨g, j, k, box_is (cells_set (cells_set HC2.out)) rfl, H1.out.own.other (q := q) H1.out.ne ?_ rfl rfl rfl, HQ.out.2, H1.out.ne⟩, (((B2.out.setCell (p := ⟨q, 11, none⟩) HQ.out.2 _).setCell (p := ⟨q, 7, none⟩) HQ.out.2 _))⟩
  exact fun m hm => ((other_set (other_set (fun _ _ => rfl))) m hm).trans (HO2.out m hm)

set_option maxHeartbeats 4000000 in
set_option maxRecDepth 100000 in
theorem change_3 {base q : Nat} {w : World} {g j k : Value} {S : StS} (h : StAt base q w g j k S) {e : EvS} (hev : evB e = true) (hk : e.kind = 3) :
    Calls Try.prog 17 #[.pointer (some ⟨q, 0, none⟩), e.val'] w fun x w' => x = .returned (.tuple #[]) ∧ (∃ g' j' k', StAt base q w' g' j' k' { S with next := e.id + 1, taken := e.id, asked := 0, fresh := false }) ∧ Below base w w' := by
  have hid := ((evB_iff _).1 hev).id
  have htk := ((evB_iff _).1 hev).tick
  obtain ⟨id, kind, tick, ref, step, tryN, undo, data⟩ := e
  simp only at hid hk htk
  have HKD := Lib.hid hk
  obtain ⟨w1, hw1, b1, E1, hs1⟩ := evBoxed w ⟨id, kind, tick, ref, step, tryN, undo, data⟩
  have H0 := Lib.hid h
  have H1 := Lib.hid (h.later b1)
  have HE1 := Lib.hid E1
  have B1 := Lib.hid b1
  have HQ : Hid (q < w.heap.size ∧ base ≤ q) := ⟨h.box.lt, h.lo⟩
  have f3 := block_free H1.out.box.cells 3
  have q3 := (block_cell H1.out.box.cells 3).trans rfl
  obtain ⟨d0, d1, -⟩ := E1.c
  have hio : IntKind.i64.wrap (id + 1) = id + 1 := IntWalk.i64_in _ ⟨by omega, by omega⟩
  unfold EvS.val'
  simp only at hw1 d0 d1
  subst hk
  clear hev b1 E1 hs1 h
  go_enter Try.func17, Try.ntmps17
  go_upto_region 2 with (fail)
  obtain ⟨w2, hw2⟩ : ∃ w2, w1.setCell ⟨q, 3, none⟩ (.int .i64 (id + 1)) = w2 := ⟨_, rfl⟩
  have HO2 : Hid (∀ m, m ≠ q → w2.heap[m]? = w1.heap[m]?) := by refine Lib.hid ?_; rw [← hw2]; exact set_other _ _ _ _
  have HC2 : Hid (w2.heap[q]? = some (.cells #[g, .int .i64 S.prog.limit, .int .i64 S.status, .int .i64 (id + 1), .int .i64 S.began, .int .i64 S.asked, .int .i64 S.taken, .bool S.fresh, j, k, .bool S.cancel, .bool S.overdue] 30 (0, 0))) := by refine Lib.hid ?_; rw [← hw2]; exact cells_set H1.out.box.cells
  have B2 : Hid (Below base w w2) := by refine Lib.hid ?_; rw [← hw2]; exact (B1.out.mono (by have := HQ.out; omega)).setCell (p := ⟨q, 3, none⟩) HQ.out.2 _
  have HE2 : Hid (EvBox w2 w.heap.size ⟨id, 3, tick, ref, step, tryN, undo, data⟩) := (HO2.out _ (by have := HQ.out; omega)).trans HE1.out
  have HN2 : Hid (w2.heap.size = w1.heap.size ∧ w1.heap.size = w.heap.size + 1) := by refine Lib.hid ⟨?_, ?_⟩; (rw [← hw2]; simp [World.setCell]); (rw [← hw1]; simp)
  (try rw [hw2])
  clear hw2 f3 q3 d0 d1 hio
  obtain ⟨d0, d1, d2, d3, d4, d5, d6, d7⟩ := HE2.out.c
  have s0 := (block_cell HC2.out 0).trans rfl
  have s1 := (block_cell HC2.out 1).trans rfl
  have s2 := (block_cell HC2.out 2).trans rfl
  have s3 := (block_cell HC2.out 3).trans rfl
  have s4 := (block_cell HC2.out 4).trans rfl
  have s5 := (block_cell HC2.out 5).trans rfl
  have s6 := (block_cell HC2.out 6).trans rfl
  have s7 := (block_cell HC2.out 7).trans rfl
  have s8 := (block_cell HC2.out 8).trans rfl
  have s9 := (block_cell HC2.out 9).trans rfl
  have s10 := (block_cell HC2.out 10).trans rfl
  have s11 := (block_cell HC2.out 11).trans rfl
  have f0 := block_free HC2.out 0
  have f1 := block_free HC2.out 1
  have f2 := block_free HC2.out 2
  have f3 := block_free HC2.out 3
  have f4 := block_free HC2.out 4
  have f5 := block_free HC2.out 5
  have f6 := block_free HC2.out 6
  have f7 := block_free HC2.out 7
  have f8 := block_free HC2.out 8
  have f9 := block_free HC2.out 9
  have f10 := block_free HC2.out 10
  have f11 := block_free HC2.out 11
  simp only at d0 d1 d2 d3 d4 d5 d6 d7
  go_upto_region 9 with (fail)
  go_region
  all_goals go_wp2
  go_end0
  refine ⟨rfl, ⟨g, j, k, box_is (cells_set (cells_set (cells_set HC2.out))) rfl, H1.out.own.other (q := q) H1.out.ne ?_ rfl rfl rfl, HQ.out.2, H1.out.ne⟩, ((((B2.out.setCell (p := ⟨q, 5, none⟩) HQ.out.2 _).setCell (p := ⟨q, 6, none⟩) HQ.out.2 _).setCell (p := ⟨q, 7, none⟩) HQ.out.2 _)).drew⟩
  exact fun m hm => ((other_set (other_set (other_set (fun _ _ => rfl)))) m hm).trans (HO2.out m hm)
end Go.Proofs.Ytlkfpeefjpmmfaa

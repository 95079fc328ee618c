/- Layer 14: contracts of the closures of canCome, and of slices.DeleteFunc and slices.Clone over steps, jobs and clocks. -/
import Derived.Test.YtlkfpeefjpmmfaaJ23
namespace Go.Proofs.Ytlkfpeefjpmmfaa
open Go.RowKit
set_option linter.unusedVariables false

theorem enters_tried : ∀ args w, (callFunc 66 args).run Try.prog w = .ok (.enter 66 args) w := enters_of Try.func66 (by kernel_rfl) rfl
theorem enters_fired : ∀ args w, (callFunc 68 args).run Try.prog w = .ok (.enter 68 args) w := enters_of Try.func68 (by kernel_rfl) rfl
theorem enters_can1 : ∀ args w, (callFunc 57 args).run Try.prog w = .ok (.enter 57 args) w := enters_of Try.func57 (by kernel_rfl) rfl
theorem enters_can2 : ∀ args w, (callFunc 59 args).run Try.prog w = .ok (.enter 59 args) w := enters_of Try.func59 (by kernel_rfl) rfl

/-- What a job's closure has: the event's own closure, the state. -/
structure CanAt (w : World) (c q b : Nat) (e : EvS) (g j k : Value) (S : StS) : Prop where
  ev : EvBox w b e
  fn : w.heap[c]? = some (.cells #[.func (.func 66) #[] #[.pointer (some ⟨b, 0, none⟩)]] 71 (0, 0))
  st : StBox w q g j k S
  rd : ReadG w g S.prog.steps
theorem CanAt.later {w w' : World} {c q b : Nat} {e : EvS} {g j k : Value} {S : StS} (h : CanAt w c q b e g j k S) (t : Below w.heap.size w w') : CanAt w' c q b e g j k S :=
  ⟨h.ev.later t, (t.block c (block_lt h.fn)).trans h.fn, h.st.later t, h.rd.below t⟩

set_option maxHeartbeats 4000000 in
set_option maxRecDepth 100000 in
theorem can1_any {w : World} {c q b : Nat} {e : EvS} {g j k : Value} {S : StS} (h : CanAt w c q b e g j k S) (x : JobS) :
    Calls Try.prog 57 #[x.val', .pointer (some ⟨c, 0, none⟩), .pointer (some ⟨q, 0, none⟩)] w fun r w' => r = .returned (.bool (isT e x && decide (x.tryN < triesG S.prog x))) ∧ Below w.heap.size w w' := by
  obtain ⟨w1, hw1⟩ : ∃ w1, w.alloc (.cells #[.int .i64 x.id, .int .i64 x.step, .bool x.undo, .int .i64 x.tryN] 49) = w1 := ⟨_, rfl⟩
  have b1 : Below w.heap.size w w1 := by rw [← hw1]; exact (Below.refl _ w).alloc (Nat.le_refl _) _
  have hn1 : w1.heap[w.heap.size]? = some (.cells #[.int .i64 x.id, .int .i64 x.step, .bool x.undo, .int .i64 x.tryN] 49 (0, 0)) := by rw [← hw1]; exact heap_alloc_new _ _
  obtain ⟨ga, gc, rfl⟩ := h.rd.slice
  have h1 := h.later b1
  have HCT : Hid (∀ y : BW w1, CanAt y.w' c q b e (.slice ga S.prog.steps.length gc) j k S) := fun y => h1.later y.below
  have HNT : Hid (∀ y : BW w1, y.w'.heap[w.heap.size]? = some (.cells #[.int .i64 x.id, .int .i64 x.step, .bool x.undo, .int .i64 x.tryN] 49 (0, 0))) := fun y => (y.below.block _ (block_lt hn1)).trans hn1
  have B1 := Lib.hid b1
  have HTR : Hid (∀ y : BW w1, Calls Try.prog 58 #[S.val' (.slice ga S.prog.steps.length gc) j k, x.val'] y.w' fun e w' => e = .returned (.int .i64 (triesG S.prog x)) ∧ Below y.w'.heap.size y.w' w') := fun y => tries14_any S (HCT.out y).rd x
  have HTB : Hid (∀ y : BW w1, Calls Try.prog 66 #[x.val', .pointer (some ⟨b, 0, none⟩)] y.w' fun r w' => r = .returned (.bool (isT e x)) ∧ Below y.w'.heap.size y.w' w') := fun y => triedBy1_any (HCT.out y).ev x
  generalize isT e x = R at *
  generalize triesG S.prog x = T at *
  unfold StS.val' JobS.val' at *
  clear h h1 b1 hn1
  go_enter Try.func57, Try.ntmps57
  go_upto_region 1 with (fail)
  have d0 := fun y => (block_cell (HNT.out y) 0).trans rfl
  have d1 := fun y => (block_cell (HNT.out y) 1).trans rfl
  have d2 := fun y => (block_cell (HNT.out y) 2).trans rfl
  have d3 := fun y => (block_cell (HNT.out y) 3).trans rfl
  have e0 := fun y => (block_cell (HCT.out y).fn 0).trans rfl
  have s0 := fun y => (block_cell (HCT.out y).st.cells 0).trans rfl
  have s1 := fun y => (block_cell (HCT.out y).st.cells 1).trans rfl
  have s2 := fun y => (block_cell (HCT.out y).st.cells 2).trans rfl
  have s3 := fun y => (block_cell (HCT.out y).st.cells 3).trans rfl
  have s4 := fun y => (block_cell (HCT.out y).st.cells 4).trans rfl
  have s5 := fun y => (block_cell (HCT.out y).st.cells 5).trans rfl
  have s6 := fun y => (block_cell (HCT.out y).st.cells 6).trans rfl
  have s7 := fun y => (block_cell (HCT.out y).st.cells 7).trans rfl
  have s8 := fun y => (block_cell (HCT.out y).st.cells 8).trans rfl
  have s9 := fun y => (block_cell (HCT.out y).st.cells 9).trans rfl
  have s10 := fun y => (block_cell (HCT.out y).st.cells 10).trans rfl
  have s11 := fun y => (block_cell (HCT.out y).st.cells 11).trans rfl
  refine region_class (w := w1) ⟨w1, Below.refl _ _⟩ rfl (by kernel_rfl) (by kernel_rfl) ?_
  cases R with
  | false =>
    repeat (go_big_quiet_step (first
      | (go_at_call 66; with_reducible exact class_call (HTB.out _))
      | (go_at_call 58; with_reducible exact class_call (HTR.out _))))
    refine wpQuiet_nil ?_
    rintro _ ⟨y, rfl⟩
    have BY := Lib.hid (B1.out.trans (y.below.mono B1.out.size))
    clear d0 d1 d2 d3 e0 s0 s1 s2 s3 s4 s5 s6 s7 s8 s9 s10 s11
    go_wp2
    go_ret
    exact ⟨rfl, BY.out⟩
  | true =>
    repeat (go_big_quiet_step (first
      | (go_at_call 66; with_reducible exact class_call (HTB.out _))
      | (go_at_call 58; with_reducible exact class_call (HTR.out _))))
    refine wpQuiet_nil ?_
    rintro _ ⟨y, rfl⟩
    have BY := Lib.hid (B1.out.trans (y.below.mono B1.out.size))
    clear d0 d1 d2 d3 e0 s0 s1 s2 s3 s4 s5 s6 s7 s8 s9 s10 s11
    go_wp2
    go_ret
    exact ⟨rfl, BY.out⟩

set_option maxHeartbeats 4000000 in
set_option maxRecDepth 100000 in
theorem can2_any {w : World} {c q b : Nat} {e : EvS} {g j k : Value} {S : StS} (h : CanAt w c q b e g j k S) (x : JobS) :
    Calls Try.prog 59 #[x.val', .pointer (some ⟨c, 0, none⟩), .pointer (some ⟨q, 0, none⟩)] w fun r w' => r = .returned (.bool (isT e x && decide (x.tryN = triesG S.prog x))) ∧ Below w.heap.size w w' := by
  obtain ⟨w1, hw1⟩ : ∃ w1, w.alloc (.cells #[.int .i64 x.id, .int .i64 x.step, .bool x.undo, .int .i64 x.tryN] 49) = w1 := ⟨_, rfl⟩
  have b1 : Below w.heap.size w w1 := by rw [← hw1]; exact (Below.refl _ w).alloc (Nat.le_refl _) _
  have hn1 : w1.heap[w.heap.size]? = some (.cells #[.int .i64 x.id, .int .i64 x.step, .bool x.undo, .int .i64 x.tryN] 49 (0, 0)) := by rw [← hw1]; exact heap_alloc_new _ _
  obtain ⟨ga, gc, rfl⟩ := h.rd.slice
  have h1 := h.later b1
  have HCT : Hid (∀ y : BW w1, CanAt y.w' c q b e (.slice ga S.prog.steps.length gc) j k S) := fun y => h1.later y.below
  have HNT : Hid (∀ y : BW w1, y.w'.heap[w.heap.size]? = some (.cells #[.int .i64 x.id, .int .i64 x.step, .bool x.undo, .int .i64 x.tryN] 49 (0, 0))) := fun y => (y.below.block _ (block_lt hn1)).trans hn1
  have B1 := Lib.hid b1
  have HTR : Hid (∀ y : BW w1, Calls Try.prog 58 #[S.val' (.slice ga S.prog.steps.length gc) j k, x.val'] y.w' fun e w' => e = .returned (.int .i64 (triesG S.prog x)) ∧ Below y.w'.heap.size y.w' w') := fun y => tries14_any S (HCT.out y).rd x
  have HTB : Hid (∀ y : BW w1, Calls Try.prog 66 #[x.val', .pointer (some ⟨b, 0, none⟩)] y.w' fun r w' => r = .returned (.bool (isT e x)) ∧ Below y.w'.heap.size y.w' w') := fun y => triedBy1_any (HCT.out y).ev x
  generalize isT e x = R at *
  generalize triesG S.prog x = T at *
  unfold StS.val' JobS.val' at *
  clear h h1 b1 hn1
  go_enter Try.func59, Try.ntmps59
  go_upto_region 1 with (fail)
  have d0 := fun y => (block_cell (HNT.out y) 0).trans rfl
  have d1 := fun y => (block_cell (HNT.out y) 1).trans rfl
  have d2 := fun y => (block_cell (HNT.out y) 2).trans rfl
  have d3 := fun y => (block_cell (HNT.out y) 3).trans rfl
  have e0 := fun y => (block_cell (HCT.out y).fn 0).trans rfl
  have s0 := fun y => (block_cell (HCT.out y).st.cells 0).trans rfl
  have s1 := fun y => (block_cell (HCT.out y).st.cells 1).trans rfl
  have s2 := fun y => (block_cell (HCT.out y).st.cells 2).trans rfl
  have s3 := fun y => (block_cell (HCT.out y).st.cells 3).trans rfl
  have s4 := fun y => (block_cell (HCT.out y).st.cells 4).trans rfl
  have s5 := fun y => (block_cell (HCT.out y).st.cells 5).trans rfl
  have s6 := fun y => (block_cell (HCT.out y).st.cells 6).trans rfl
  have s7 := fun y => (block_cell (HCT.out y).st.cells 7).trans rfl
  have s8 := fun y => (block_cell (HCT.out y).st.cells 8).trans rfl
  have s9 := fun y => (block_cell (HCT.out y).st.cells 9).trans rfl
  have s10 := fun y => (block_cell (HCT.out y).st.cells 10).trans rfl
  have s11 := fun y => (block_cell (HCT.out y).st.cells 11).trans rfl
  refine region_class (w := w1) ⟨w1, Below.refl _ _⟩ rfl (by kernel_rfl) (by kernel_rfl) ?_
  cases R with
  | false =>
    repeat (go_big_quiet_step (first
      | (go_at_call 66; with_reducible exact class_call (HTB.out _))
      | (go_at_call 58; with_reducible exact class_call (HTR.out _))))
    refine wpQuiet_nil ?_
    rintro _ ⟨y, rfl⟩
    have BY := Lib.hid (B1.out.trans (y.below.mono B1.out.size))
    clear d0 d1 d2 d3 e0 s0 s1 s2 s3 s4 s5 s6 s7 s8 s9 s10 s11
    go_wp2
    go_ret
    exact ⟨rfl, BY.out⟩
  | true =>
    repeat (go_big_quiet_step (first
      | (go_at_call 66; with_reducible exact class_call (HTB.out _))
      | (go_at_call 58; with_reducible exact class_call (HTR.out _))))
    refine wpQuiet_nil ?_
    rintro _ ⟨y, rfl⟩
    have BY := Lib.hid (B1.out.trans (y.below.mono B1.out.size))
    clear d0 d1 d2 d3 e0 s0 s1 s2 s3 s4 s5 s6 s7 s8 s9 s10 s11
    go_wp2
    go_ret
    exact ⟨rfl, BY.out⟩
end Go.Proofs.Ytlkfpeefjpmmfaa

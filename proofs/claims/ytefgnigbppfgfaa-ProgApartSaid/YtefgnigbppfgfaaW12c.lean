/- Layer 12: the contract of the program's stepBytes. -/
import Derived.Test.YtefgnigbppfgfaaW12b
namespace Go.Proofs.Ytefgnigbppfgfaa
open Go.RowKit
set_option linter.unusedVariables false

theorem text_small {s : ByteArray} (h : s.size ≤ 16) : (bx (textL s)).size ≤ 18 := by
  have := putL_small (n := s.size) (by omega)
  have e : s.data.toList.length = s.size := by simp
  rw [bx_size]; unfold textL; rw [List.length_append]; omega

set_option maxHeartbeats 4000000 in
set_option maxRecDepth 100000 in
theorem stepBytes_any (x : StepS) (h : stepB x = true) (w : World) :
    Calls Try.prog 18 #[x.val'] w fun e w' => e = .returned (.string (bx (encStep x))) ∧ Below w.heap.size w w' := by
  have hns := step_nums h
  obtain ⟨kind, name, undo, tries, undoTries, wait⟩ := x
  simp only at hns
  obtain ⟨w1, hw1⟩ : ∃ w1, w.alloc (.cells #[.int .i64 kind, .string name, .string undo, .int .i64 tries, .int .i64 undoTries, .int .i64 wait] 40) = w1 := ⟨_, rfl⟩
  have hb1 : Below w.heap.size w w1 := by rw [← hw1]; exact (Below.refl _ w).alloc (Nat.le_refl _) _
  have hnw : w1.heap[w.heap.size]? = some (.cells #[.int .i64 kind, .string name, .string undo, .int .i64 tries, .int .i64 undoTries, .int .i64 wait] 40 (0, 0)) := by rw [← hw1]; exact heap_alloc_new _ _
  have HB := Lib.hid hb1
  have HNW := Lib.hid hnw
  have c0 := (block_cell hnw 0).trans rfl
  unfold StepS.val'
  clear hb1 h
  rcases hns with ⟨rfl, t, u, rfl, rfl, ht, hu, hn16, hu16⟩ | ⟨rfl, m, rfl, hm⟩ | ⟨rfl, hn16⟩
  · have hK := fun w => number_bx 1 (by omega) w
    have hA := fun w => text_bx name (by omega) w
    have hT := fun w => number_bx t (by omega) w
    have hC := fun w => text_bx undo (by omega) w
    have hD := fun w => number_bx u (by omega) w
    have z1 : (bx (putL 1)).size ≤ 2 := by rw [bx_size]; exact putL_small (by omega)
    have z2 := text_small hn16
    have z3 : (bx (putL t)).size ≤ 2 := by rw [bx_size]; exact putL_small (by omega)
    have z4 := text_small hu16
    have z5 : (bx (putL u)).size ≤ 2 := by rw [bx_size]; exact putL_small (by omega)
    have hfin : (((bx (putL 1) ++ bx (textL name)) ++ bx (putL t)) ++ bx (textL undo)) ++ bx (putL u) = bx (encStep ⟨1, name, undo, (t : Int), (u : Int), wait⟩) := by
      simp only [bx_app]
      unfold encStep
      simp only [if_true, Int.toNat_natCast, List.append_assoc]
      rfl
    have n1 : ¬ 9223372036854775807 < (bx (putL 1)).size + (bx (textL name)).size := by omega
    have n2 : ¬ 9223372036854775807 < (bx (putL 1)).size + (bx (textL name)).size + (bx (putL t)).size := by omega
    have n3 : ¬ 9223372036854775807 < (bx (putL 1)).size + (bx (textL name)).size + (bx (putL t)).size + (bx (textL undo)).size := by omega
    have n4 : ¬ 9223372036854775807 < (bx (putL 1)).size + (bx (textL name)).size + (bx (putL t)).size + (bx (textL undo)).size + (bx (putL u)).size := by omega
    generalize bx (encStep ⟨1, name, undo, (t : Int), (u : Int), wait⟩) = FI at *
    generalize bx (putL 1) = TK at *
    generalize bx (textL name) = TA at *
    generalize bx (putL t) = TT at *
    generalize bx (textL undo) = TC at *
    generalize bx (putL u) = TD at *
    have HFI := Lib.hid hfin
    have HA := Lib.hid hA
    have HT := Lib.hid hT
    have HC := Lib.hid hC
    have HD := Lib.hid hD
    clear hfin hA hT hC hD z1 z2 z3 z4 z5 hnw
    go_enter Try.func18, Try.ntmps18
    go_wp2_with fail
    refine (hK _).mono ?_
    rintro e w2 ⟨rfl, b2⟩
    have B2 := Lib.hid (HB.out.trans (b2.mono HB.out.size))
    have HC2 : Hid (∀ y : BW w2, y.w'.heap[w.heap.size]? = some (.cells #[.int .i64 1, .string name, .string undo, .int .i64 (t : Int), .int .i64 (u : Int), .int .i64 wait] 40 (0, 0))) := fun y => by
      have e := (b2.block _ (block_lt HNW.out)).trans HNW.out
      exact (y.below.block _ (block_lt e)).trans e
    have e0 : w2.cell? ⟨w.heap.size, 0, none⟩ = some (.int .i64 1) := by rw [block_cell ((b2.block _ (block_lt HNW.out)).trans HNW.out)]; rfl
    have d1 := fun y => (block_cell (HC2.out y) 1).trans rfl
    have d2 := fun y => (block_cell (HC2.out y) 2).trans rfl
    have d3 := fun y => (block_cell (HC2.out y) 3).trans rfl
    have d4 := fun y => (block_cell (HC2.out y) 4).trans rfl
    clear c0 b2 hK
    go_upto_region 4 with (fail)
    refine region_class (w := w2) ⟨w2, Below.refl _ _⟩ rfl (by kernel_rfl) (by kernel_rfl) ?_
    repeat (go_big_quiet_step (first
      | (go_at_call 31; first | exact class_call (HA.out _) | exact class_call (HC.out _))
      | (go_at_call 17; first | exact class_call (HT.out _) | exact class_call (HD.out _))))
    refine wpQuiet_nil ?_
    rintro _ ⟨y, rfl⟩
    have BY := Lib.hid (B2.out.trans (y.below.mono B2.out.size))
    go_wp2
    go_ret
    exact ⟨by rw [← HFI.out]; rfl, BY.out⟩
  · have hK := fun w => number_bx 2 (by omega) w
    have hA := fun w => number_bx m (by omega) w
    have z1 : (bx (putL 2)).size ≤ 2 := by rw [bx_size]; exact putL_small (by omega)
    have z2 : (bx (putL m)).size ≤ 18 := by rw [bx_size]; have := putL_small (n := m) (by omega); omega
    have hfin : bx (putL 2) ++ bx (putL m) = bx (encStep ⟨2, name, undo, tries, undoTries, (m : Int)⟩) := by
      simp only [bx_app]
      unfold encStep
      simp only [show ¬ (2 : Int) = 1 by omega, if_true, if_false, Int.toNat_natCast]
      rfl
    have n1 : ¬ 9223372036854775807 < (bx (putL 2)).size + (bx (putL m)).size := by omega
    generalize bx (encStep ⟨2, name, undo, tries, undoTries, (m : Int)⟩) = FI at *
    generalize bx (putL 2) = TK at *
    generalize bx (putL m) = TA at *
    have HFI := Lib.hid hfin
    clear hfin hnw z1 z2
    go_enter Try.func18, Try.ntmps18
    go_wp2_with fail
    refine (hK _).mono ?_
    rintro e w2 ⟨rfl, b2⟩
    have B2 := Lib.hid (HB.out.trans (b2.mono HB.out.size))
    have hn2 := (b2.block _ (block_lt HNW.out)).trans HNW.out
    have e0 : w2.cell? ⟨w.heap.size, 0, none⟩ = some (.int .i64 2) := by rw [block_cell hn2]; rfl
    have e5 : w2.cell? ⟨w.heap.size, 5, none⟩ = some (.int .i64 (m : Int)) := by rw [block_cell hn2]; rfl
    clear c0 b2 hn2
    go_wp2_with fail
    refine (hA _).mono ?_
    rintro e w3 ⟨rfl, b3⟩
    have B3 := Lib.hid (B2.out.trans (b3.mono B2.out.size))
    clear b3 e0 e5
    go_wp2
    go_ret
    exact ⟨by rw [← HFI.out]; rfl, B3.out⟩
  · have hK := fun w => number_bx 3 (by omega) w
    have hA := fun w => text_bx name (by omega) w
    have z1 : (bx (putL 3)).size ≤ 2 := by rw [bx_size]; exact putL_small (by omega)
    have z2 := text_small hn16
    have hfin : bx (putL 3) ++ bx (textL name) = bx (encStep ⟨3, name, undo, tries, undoTries, wait⟩) := by
      simp only [bx_app]
      unfold encStep
      simp only [show ¬ (3 : Int) = 1 by omega, show ¬ (3 : Int) = 2 by omega, if_false]
      rfl
    have n1 : ¬ 9223372036854775807 < (bx (putL 3)).size + (bx (textL name)).size := by omega
    generalize bx (encStep ⟨3, name, undo, tries, undoTries, wait⟩) = FI at *
    generalize bx (putL 3) = TK at *
    generalize bx (textL name) = TA at *
    have HFI := Lib.hid hfin
    clear hfin hnw z1 z2
    go_enter Try.func18, Try.ntmps18
    go_wp2_with fail
    refine (hK _).mono ?_
    rintro e w2 ⟨rfl, b2⟩
    have B2 := Lib.hid (HB.out.trans (b2.mono HB.out.size))
    have hn2 := (b2.block _ (block_lt HNW.out)).trans HNW.out
    have e0 : w2.cell? ⟨w.heap.size, 0, none⟩ = some (.int .i64 3) := by rw [block_cell hn2]; rfl
    have e1 : w2.cell? ⟨w.heap.size, 1, none⟩ = some (.string name) := by rw [block_cell hn2]; rfl
    clear c0 b2 hn2
    go_wp2_with fail
    refine (hA _).mono ?_
    rintro e w3 ⟨rfl, b3⟩
    have B3 := Lib.hid (B2.out.trans (b3.mono B2.out.size))
    clear b3 e0 e1
    go_wp2
    go_ret
    exact ⟨by rw [← HFI.out]; rfl, B3.out⟩
end Go.Proofs.Ytefgnigbppfgfaa

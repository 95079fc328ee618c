/- Layer 13: the contract of the program's Check. -/
import Derived.Test.YtlkfpeefjpmmfaaJ31
namespace Go.Proofs.Ytlkfpeefjpmmfaa
open Go.RowKit
set_option linter.unusedVariables false

theorem class_same {P : Program} {f : FuncId} {args : Array Value} {w : World} {y : BW w} {v : Value} (h : Calls P f args y.w' fun e w'' => e = .returned v ∧ w'' = y.w') : Calls P f args y.w' fun e w'' => e = .returned v ∧ ∃ z : BW w, w'' = z.w' :=
  h.mono fun e w'' ⟨he, hb⟩ => ⟨he, y, hb⟩
set_option maxHeartbeats 8000000 in
set_option maxRecDepth 100000 in
theorem check13_any (e : EvS) (hd : e.data.size ≤ 140737488351232) (w : World) :
    Calls Try.prog 30 #[e.val'] w fun x w' => x = .returned (.int .i64 (encEE e : Nat)) ∧ Below w.heap.size w w' := by
  obtain ⟨id, kind, tick, ref, step, tryN, undo, data⟩ := e
  have HEV : Hid (evB ⟨id, kind, tick, ref, step, tryN, undo, data⟩ = (inB kind 1 18 && inB id 1 500 && inB tick 0 1099511627776 && (fieldB (shapeL kind) 114 ref 1 (id - 1) && fieldB (shapeL kind) 115 step 0 15 && fieldB (shapeL kind) 116 tryN 1 5 && (!undo || decide (shapeL kind = [115, 117])) && dataB (shapeL kind) data))) := rfl
  have HE1 : Hid (evB ⟨id, kind, tick, ref, step, tryN, undo, data⟩ = true → encEE ⟨id, kind, tick, ref, step, tryN, undo, data⟩ = 0) := fun h => if_pos h
  have HE2 : Hid (evB ⟨id, kind, tick, ref, step, tryN, undo, data⟩ = false → encEE ⟨id, kind, tick, ref, step, tryN, undo, data⟩ = 120) := fun h => if_neg (by rw [h]; decide)
  generalize evB ⟨id, kind, tick, ref, step, tryN, undo, data⟩ = EB at *
  generalize encEE ⟨id, kind, tick, ref, step, tryN, undo, data⟩ = NE at *
  obtain ⟨w0, hw0⟩ : ∃ w0, w.alloc (.cells #[.int .i64 id, .int .i64 kind, .int .i64 tick, .int .i64 ref, .int .i64 step, .int .i64 tryN, .bool undo, .string data] 39) = w0 := ⟨_, rfl⟩
  have hb0 : Below w.heap.size w w0 := by rw [← hw0]; exact (Below.refl _ w).alloc (Nat.le_refl _) _
  have hnw : w0.heap[w.heap.size]? = some (.cells #[.int .i64 id, .int .i64 kind, .int .i64 tick, .int .i64 ref, .int .i64 step, .int .i64 tryN, .bool undo, .string data] 39 (0, 0)) := by rw [← hw0]; exact heap_alloc_new _ _
  have HB := Lib.hid hb0
  have HNW := Lib.hid hnw
  have c1 : w0.cell? ⟨w.heap.size, 1, none⟩ = some (.int .i64 kind) := by rw [block_cell hnw]; rfl
  have K1 := fun w => isFrom_any 1 id 500 w
  have K2 := fun w => isFrom_any 1 kind 18 w
  have K3 := fun w => isFrom_any 0 tick 1099511627776 w
  have K4 := fun w => isNumber_any (shapeL kind) 114 1 ref (id - 1) w
  have K5 := fun w => isNumber_any (shapeL kind) 115 0 step 15 w
  have K6 := fun w => isNumber_any (shapeL kind) 116 1 tryN 5 w
  have K8 := fun w => isData_any kind data hd w
  have R4 := fun w p (h : MaskAt w p kind) => has_ref h
  have R5 := fun w p (h : MaskAt w p kind) => has_step h
  have R6 := fun w p (h : MaskAt w p kind) => has_try h
  have R7 := fun w p (h : MaskAt w p kind) => has_undo h
  have hid : inB id 1 500 = true → wrap64 (id - 1) = id - 1 := fun h => by
    have := inB_iff.1 h
    exact IntWalk.wrap64_in _ (by omega)
  have HID := Lib.hid hid
  have HFO := Lib.hid (fieldsOf_any kind)
  unfold EvS.val'
  simp only
  clear hid hb0 hnw
  generalize inB kind 1 18 = b2 at *
  generalize inB id 1 500 = b1 at *
  generalize inB tick 0 1099511627776 = b3 at *
  generalize fieldB (shapeL kind) 114 ref 1 (id - 1) = b4 at *
  generalize fieldB (shapeL kind) 115 step 0 15 = b5 at *
  generalize fieldB (shapeL kind) 116 tryN 1 5 = b6 at *
  generalize dataB (shapeL kind) data = b8 at *
  generalize decide (shapeL kind = [115, 117]) = c7 at *
  generalize (shapeL kind).contains 114 = c4 at *
  generalize (shapeL kind).contains 115 = c5 at *
  generalize (shapeL kind).contains 116 = c6 at *
  have H1 := Lib.hid K1
  have H2 := Lib.hid K2
  have H3 := Lib.hid K3
  have H4 := Lib.hid K4
  have H5 := Lib.hid K5
  have H6 := Lib.hid K6
  have H8 := Lib.hid K8
  have S4 := Lib.hid R4
  have S5 := Lib.hid R5
  have S6 := Lib.hid R6
  have S7 := Lib.hid R7
  clear K1 K2 K3 K4 K5 K6 K8 R4 R5 R6 R7
  go_enter Try.func30, Try.ntmps30
  go_wp2_with fail
  refine (HFO.out _).mono ?_
  rintro e w2 ⟨rfl, mk, b2⟩
  have MK := Lib.hid mk
  have BB := Lib.hid (HB.out.trans (b2.mono HB.out.size))
  have hn2 := (b2.block _ (block_lt HNW.out)).trans HNW.out
  have HC : Hid (∀ y : BW w2, y.w'.heap[w.heap.size]? = some (.cells #[.int .i64 id, .int .i64 kind, .int .i64 tick, .int .i64 ref, .int .i64 step, .int .i64 tryN, .bool undo, .string data] 39 (0, 0))) := fun y => (y.below.block _ (block_lt hn2)).trans hn2
  have HM : Hid (∀ y : BW w2, MaskAt y.w' w0.heap.size kind) := fun y => MK.out.later y.below
  clear c1 mk b2 hn2
  go_upto_region 2 with (fail)
  have d0 := fun y => (block_cell (HC.out y) 0).trans rfl
  have d1 := fun y => (block_cell (HC.out y) 1).trans rfl
  have d2 := fun y => (block_cell (HC.out y) 2).trans rfl
  have d3 := fun y => (block_cell (HC.out y) 3).trans rfl
  have d4 := fun y => (block_cell (HC.out y) 4).trans rfl
  have d5 := fun y => (block_cell (HC.out y) 5).trans rfl
  have d6 := fun y => (block_cell (HC.out y) 6).trans rfl
  have d7 := fun y => (block_cell (HC.out y) 7).trans rfl
  refine region_class (w := w2) ⟨w2, Below.refl _ _⟩ rfl (by kernel_rfl) (by kernel_rfl) ?_
  repeat (go_big_quiet_step (first
    | (go_at_call 52; first | with_reducible exact class_same (H1.out _) | with_reducible exact class_same (H2.out _) | with_reducible exact class_same (H3.out _))
    | (go_at_call 53; first | with_reducible exact class_same (H4.out _) | with_reducible exact class_same (H5.out _) | with_reducible exact class_same (H6.out _))
    | (go_at_call 75; first | with_reducible exact class_same (S4.out _ _ (HM.out _)) | with_reducible exact class_same (S5.out _ _ (HM.out _)) | with_reducible exact class_same (S6.out _ _ (HM.out _)) | with_reducible exact class_same (S7.out _ _ (HM.out _)))
    | (go_at_call 54; with_reducible exact class_call (H8.out _))))
  cases b1 with
  | false =>
    repeat (go_big_quiet_step (first
      | (go_at_call 52; first | with_reducible exact class_same (H1.out _) | with_reducible exact class_same (H2.out _) | with_reducible exact class_same (H3.out _))
      | (go_at_call 53; first | with_reducible exact class_same (H4.out _) | with_reducible exact class_same (H5.out _) | with_reducible exact class_same (H6.out _))
      | (go_at_call 75; first | with_reducible exact class_same (S4.out _ _ (HM.out _)) | with_reducible exact class_same (S5.out _ _ (HM.out _)) | with_reducible exact class_same (S6.out _ _ (HM.out _)) | with_reducible exact class_same (S7.out _ _ (HM.out _)))
      | (go_at_call 54; with_reducible exact class_call (H8.out _))))
    refine wpQuiet_nil ?_
    rintro _ ⟨y, rfl⟩
    have BY := Lib.hid (BB.out.trans (y.below.mono BB.out.size))
    have HN : Hid (NE = 120) := HE2.out (by rw [HEV.out]; simp)
    clear d0 d1 d2 d3 d4 d5 d6 d7
    go_wp2
    go_ret
    exact ⟨by rw [HN.out]; rfl, BY.out⟩
  | true =>
    have hwr := HID.out rfl
    repeat (go_big_quiet_step (first
      | (go_at_call 52; first | with_reducible exact class_same (H1.out _) | with_reducible exact class_same (H2.out _) | with_reducible exact class_same (H3.out _))
      | (go_at_call 53; first | with_reducible exact class_same (H4.out _) | with_reducible exact class_same (H5.out _) | with_reducible exact class_same (H6.out _))
      | (go_at_call 75; first | with_reducible exact class_same (S4.out _ _ (HM.out _)) | with_reducible exact class_same (S5.out _ _ (HM.out _)) | with_reducible exact class_same (S6.out _ _ (HM.out _)) | with_reducible exact class_same (S7.out _ _ (HM.out _)))
      | (go_at_call 54; with_reducible exact class_call (H8.out _))))
    cases b2 with
    | false =>
      repeat (go_big_quiet_step (first
        | (go_at_call 52; first | with_reducible exact class_same (H1.out _) | with_reducible exact class_same (H2.out _) | with_reducible exact class_same (H3.out _))
        | (go_at_call 53; first | with_reducible exact class_same (H4.out _) | with_reducible exact class_same (H5.out _) | with_reducible exact class_same (H6.out _))
        | (go_at_call 75; first | with_reducible exact class_same (S4.out _ _ (HM.out _)) | with_reducible exact class_same (S5.out _ _ (HM.out _)) | with_reducible exact class_same (S6.out _ _ (HM.out _)) | with_reducible exact class_same (S7.out _ _ (HM.out _)))
        | (go_at_call 54; with_reducible exact class_call (H8.out _))))
      refine wpQuiet_nil ?_
      rintro _ ⟨y, rfl⟩
      have BY := Lib.hid (BB.out.trans (y.below.mono BB.out.size))
      have HN : Hid (NE = 120) := HE2.out (by rw [HEV.out]; simp)
      clear d0 d1 d2 d3 d4 d5 d6 d7
      go_wp2
      go_ret
      exact ⟨by rw [HN.out]; rfl, BY.out⟩
    | true =>
      repeat (go_big_quiet_step (first
        | (go_at_call 52; first | with_reducible exact class_same (H1.out _) | with_reducible exact class_same (H2.out _) | with_reducible exact class_same (H3.out _))
        | (go_at_call 53; first | with_reducible exact class_same (H4.out _) | with_reducible exact class_same (H5.out _) | with_reducible exact class_same (H6.out _))
        | (go_at_call 75; first | with_reducible exact class_same (S4.out _ _ (HM.out _)) | with_reducible exact class_same (S5.out _ _ (HM.out _)) | with_reducible exact class_same (S6.out _ _ (HM.out _)) | with_reducible exact class_same (S7.out _ _ (HM.out _)))
        | (go_at_call 54; with_reducible exact class_call (H8.out _))))
      cases b3 with
      | false =>
        repeat (go_big_quiet_step (first
          | (go_at_call 52; first | with_reducible exact class_same (H1.out _) | with_reducible exact class_same (H2.out _) | with_reducible exact class_same (H3.out _))
          | (go_at_call 53; first | with_reducible exact class_same (H4.out _) | with_reducible exact class_same (H5.out _) | with_reducible exact class_same (H6.out _))
          | (go_at_call 75; first | with_reducible exact class_same (S4.out _ _ (HM.out _)) | with_reducible exact class_same (S5.out _ _ (HM.out _)) | with_reducible exact class_same (S6.out _ _ (HM.out _)) | with_reducible exact class_same (S7.out _ _ (HM.out _)))
          | (go_at_call 54; with_reducible exact class_call (H8.out _))))
        refine wpQuiet_nil ?_
        rintro _ ⟨y, rfl⟩
        have BY := Lib.hid (BB.out.trans (y.below.mono BB.out.size))
        have HN : Hid (NE = 120) := HE2.out (by rw [HEV.out]; simp)
        clear d0 d1 d2 d3 d4 d5 d6 d7
        go_wp2
        go_ret
        exact ⟨by rw [HN.out]; rfl, BY.out⟩
      | true =>
        repeat (go_big_quiet_step (first
          | (go_at_call 52; first | with_reducible exact class_same (H1.out _) | with_reducible exact class_same (H2.out _) | with_reducible exact class_same (H3.out _))
          | (go_at_call 53; first | with_reducible exact class_same (H4.out _) | with_reducible exact class_same (H5.out _) | with_reducible exact class_same (H6.out _))
          | (go_at_call 75; first | with_reducible exact class_same (S4.out _ _ (HM.out _)) | with_reducible exact class_same (S5.out _ _ (HM.out _)) | with_reducible exact class_same (S6.out _ _ (HM.out _)) | with_reducible exact class_same (S7.out _ _ (HM.out _)))
          | (go_at_call 54; with_reducible exact class_call (H8.out _))))
        cases b4 with
        | false =>
          repeat (go_big_quiet_step (first
            | (go_at_call 52; first | with_reducible exact class_same (H1.out _) | with_reducible exact class_same (H2.out _) | with_reducible exact class_same (H3.out _))
            | (go_at_call 53; first | with_reducible exact class_same (H4.out _) | with_reducible exact class_same (H5.out _) | with_reducible exact class_same (H6.out _))
            | (go_at_call 75; first | with_reducible exact class_same (S4.out _ _ (HM.out _)) | with_reducible exact class_same (S5.out _ _ (HM.out _)) | with_reducible exact class_same (S6.out _ _ (HM.out _)) | with_reducible exact class_same (S7.out _ _ (HM.out _)))
            | (go_at_call 54; with_reducible exact class_call (H8.out _))))
          refine wpQuiet_nil ?_
          rintro _ ⟨y, rfl⟩
          have BY := Lib.hid (BB.out.trans (y.below.mono BB.out.size))
          have HN : Hid (NE = 120) := HE2.out (by rw [HEV.out]; simp)
          clear d0 d1 d2 d3 d4 d5 d6 d7
          go_wp2
          go_ret
          exact ⟨by rw [HN.out]; rfl, BY.out⟩
        | true =>
          repeat (go_big_quiet_step (first
            | (go_at_call 52; first | with_reducible exact class_same (H1.out _) | with_reducible exact class_same (H2.out _) | with_reducible exact class_same (H3.out _))
            | (go_at_call 53; first | with_reducible exact class_same (H4.out _) | with_reducible exact class_same (H5.out _) | with_reducible exact class_same (H6.out _))
            | (go_at_call 75; first | with_reducible exact class_same (S4.out _ _ (HM.out _)) | with_reducible exact class_same (S5.out _ _ (HM.out _)) | with_reducible exact class_same (S6.out _ _ (HM.out _)) | with_reducible exact class_same (S7.out _ _ (HM.out _)))
            | (go_at_call 54; with_reducible exact class_call (H8.out _))))
          cases b5 with
          | false =>
            repeat (go_big_quiet_step (first
              | (go_at_call 52; first | with_reducible exact class_same (H1.out _) | with_reducible exact class_same (H2.out _) | with_reducible exact class_same (H3.out _))
              | (go_at_call 53; first | with_reducible exact class_same (H4.out _) | with_reducible exact class_same (H5.out _) | with_reducible exact class_same (H6.out _))
              | (go_at_call 75; first | with_reducible exact class_same (S4.out _ _ (HM.out _)) | with_reducible exact class_same (S5.out _ _ (HM.out _)) | with_reducible exact class_same (S6.out _ _ (HM.out _)) | with_reducible exact class_same (S7.out _ _ (HM.out _)))
              | (go_at_call 54; with_reducible exact class_call (H8.out _))))
            refine wpQuiet_nil ?_
            rintro _ ⟨y, rfl⟩
            have BY := Lib.hid (BB.out.trans (y.below.mono BB.out.size))
            have HN : Hid (NE = 120) := HE2.out (by rw [HEV.out]; simp)
            clear d0 d1 d2 d3 d4 d5 d6 d7
            go_wp2
            go_ret
            exact ⟨by rw [HN.out]; rfl, BY.out⟩
          | true =>
            repeat (go_big_quiet_step (first
              | (go_at_call 52; first | with_reducible exact class_same (H1.out _) | with_reducible exact class_same (H2.out _) | with_reducible exact class_same (H3.out _))
              | (go_at_call 53; first | with_reducible exact class_same (H4.out _) | with_reducible exact class_same (H5.out _) | with_reducible exact class_same (H6.out _))
              | (go_at_call 75; first | with_reducible exact class_same (S4.out _ _ (HM.out _)) | with_reducible exact class_same (S5.out _ _ (HM.out _)) | with_reducible exact class_same (S6.out _ _ (HM.out _)) | with_reducible exact class_same (S7.out _ _ (HM.out _)))
              | (go_at_call 54; with_reducible exact class_call (H8.out _))))
            cases b6 with
            | false =>
              repeat (go_big_quiet_step (first
                | (go_at_call 52; first | with_reducible exact class_same (H1.out _) | with_reducible exact class_same (H2.out _) | with_reducible exact class_same (H3.out _))
                | (go_at_call 53; first | with_reducible exact class_same (H4.out _) | with_reducible exact class_same (H5.out _) | with_reducible exact class_same (H6.out _))
                | (go_at_call 75; first | with_reducible exact class_same (S4.out _ _ (HM.out _)) | with_reducible exact class_same (S5.out _ _ (HM.out _)) | with_reducible exact class_same (S6.out _ _ (HM.out _)) | with_reducible exact class_same (S7.out _ _ (HM.out _)))
                | (go_at_call 54; with_reducible exact class_call (H8.out _))))
              refine wpQuiet_nil ?_
              rintro _ ⟨y, rfl⟩
              have BY := Lib.hid (BB.out.trans (y.below.mono BB.out.size))
              have HN : Hid (NE = 120) := HE2.out (by rw [HEV.out]; simp)
              clear d0 d1 d2 d3 d4 d5 d6 d7
              go_wp2
              go_ret
              exact ⟨by rw [HN.out]; rfl, BY.out⟩
            | true =>
              repeat (go_big_quiet_step (first
                | (go_at_call 52; first | with_reducible exact class_same (H1.out _) | with_reducible exact class_same (H2.out _) | with_reducible exact class_same (H3.out _))
                | (go_at_call 53; first | with_reducible exact class_same (H4.out _) | with_reducible exact class_same (H5.out _) | with_reducible exact class_same (H6.out _))
                | (go_at_call 75; first | with_reducible exact class_same (S4.out _ _ (HM.out _)) | with_reducible exact class_same (S5.out _ _ (HM.out _)) | with_reducible exact class_same (S6.out _ _ (HM.out _)) | with_reducible exact class_same (S7.out _ _ (HM.out _)))
                | (go_at_call 54; with_reducible exact class_call (H8.out _))))
              cases c7 with
              | false =>
                cases undo with
                | true =>
                  repeat (go_big_quiet_step (first
                    | (go_at_call 52; first | with_reducible exact class_same (H1.out _) | with_reducible exact class_same (H2.out _) | with_reducible exact class_same (H3.out _))
                    | (go_at_call 53; first | with_reducible exact class_same (H4.out _) | with_reducible exact class_same (H5.out _) | with_reducible exact class_same (H6.out _))
                    | (go_at_call 75; first | with_reducible exact class_same (S4.out _ _ (HM.out _)) | with_reducible exact class_same (S5.out _ _ (HM.out _)) | with_reducible exact class_same (S6.out _ _ (HM.out _)) | with_reducible exact class_same (S7.out _ _ (HM.out _)))
                    | (go_at_call 54; with_reducible exact class_call (H8.out _))))
                  refine wpQuiet_nil ?_
                  rintro _ ⟨y, rfl⟩
                  have BY := Lib.hid (BB.out.trans (y.below.mono BB.out.size))
                  have HN : Hid (NE = 120) := HE2.out (by rw [HEV.out]; simp)
                  clear d0 d1 d2 d3 d4 d5 d6 d7
                  go_wp2
                  go_ret
                  exact ⟨by rw [HN.out]; rfl, BY.out⟩
                | false =>
                  repeat (go_big_quiet_step (first
                    | (go_at_call 52; first | with_reducible exact class_same (H1.out _) | with_reducible exact class_same (H2.out _) | with_reducible exact class_same (H3.out _))
                    | (go_at_call 53; first | with_reducible exact class_same (H4.out _) | with_reducible exact class_same (H5.out _) | with_reducible exact class_same (H6.out _))
                    | (go_at_call 75; first | with_reducible exact class_same (S4.out _ _ (HM.out _)) | with_reducible exact class_same (S5.out _ _ (HM.out _)) | with_reducible exact class_same (S6.out _ _ (HM.out _)) | with_reducible exact class_same (S7.out _ _ (HM.out _)))
                    | (go_at_call 54; with_reducible exact class_call (H8.out _))))
                  cases b8 with
                  | false =>
                    refine wpQuiet_nil ?_
                    rintro _ ⟨y, rfl⟩
                    have BY := Lib.hid (BB.out.trans (y.below.mono BB.out.size))
                    have HN : Hid (NE = 120) := HE2.out (by rw [HEV.out]; simp)
                    clear d0 d1 d2 d3 d4 d5 d6 d7
                    go_wp2
                    go_ret
                    exact ⟨by rw [HN.out]; rfl, BY.out⟩
                  | true =>
                    refine wpQuiet_nil ?_
                    rintro _ ⟨y, rfl⟩
                    have BY := Lib.hid (BB.out.trans (y.below.mono BB.out.size))
                    have HN : Hid (NE = 0) := HE1.out (by rw [HEV.out]; simp)
                    clear d0 d1 d2 d3 d4 d5 d6 d7
                    go_wp2
                    go_ret
                    exact ⟨by rw [HN.out]; rfl, BY.out⟩
              | true =>
                repeat (go_big_quiet_step (first
                  | (go_at_call 52; first | with_reducible exact class_same (H1.out _) | with_reducible exact class_same (H2.out _) | with_reducible exact class_same (H3.out _))
                  | (go_at_call 53; first | with_reducible exact class_same (H4.out _) | with_reducible exact class_same (H5.out _) | with_reducible exact class_same (H6.out _))
                  | (go_at_call 75; first | with_reducible exact class_same (S4.out _ _ (HM.out _)) | with_reducible exact class_same (S5.out _ _ (HM.out _)) | with_reducible exact class_same (S6.out _ _ (HM.out _)) | with_reducible exact class_same (S7.out _ _ (HM.out _)))
                  | (go_at_call 54; with_reducible exact class_call (H8.out _))))
                cases b8 with
                | false =>
                  refine wpQuiet_nil ?_
                  rintro _ ⟨y, rfl⟩
                  have BY := Lib.hid (BB.out.trans (y.below.mono BB.out.size))
                  have HN : Hid (NE = 120) := HE2.out (by rw [HEV.out]; simp)
                  clear d0 d1 d2 d3 d4 d5 d6 d7
                  go_wp2
                  go_ret
                  exact ⟨by rw [HN.out]; rfl, BY.out⟩
                | true =>
                  refine wpQuiet_nil ?_
                  rintro _ ⟨y, rfl⟩
                  have BY := Lib.hid (BB.out.trans (y.below.mono BB.out.size))
                  have HN : Hid (NE = 0) := HE1.out (by rw [HEV.out]; simp)
                  clear d0 d1 d2 d3 d4 d5 d6 d7
                  go_wp2
                  go_ret
                  exact ⟨by rw [HN.out]; rfl, BY.out⟩
end Go.Proofs.Ytlkfpeefjpmmfaa

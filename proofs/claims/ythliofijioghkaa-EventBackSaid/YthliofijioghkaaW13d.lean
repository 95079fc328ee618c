/- Layer 13: the contract of the program's Encode. -/
import Derived.Test.YthliofijioghkaaW13c
namespace Go.Proofs.Ythliofijioghkaa
open Go.RowKit
set_option linter.unusedVariables false

/-- Which fields a kind has, and what follows its head. -/
theorem enc_bits (e : EvS) :
    (shapeL e.kind = [112] ∧ (shapeL e.kind).contains 114 = false ∧ (shapeL e.kind).contains 115 = false ∧ (shapeL e.kind).contains 116 = false ∧ decide (shapeL e.kind = [115, 117]) = false ∧ dataF (shapeL e.kind) = true ∧ encEv e = headL e ++ textL e.data)
    ∨ (shapeL e.kind = [114] ∧ (shapeL e.kind).contains 114 = true ∧ (shapeL e.kind).contains 115 = false ∧ (shapeL e.kind).contains 116 = false ∧ decide (shapeL e.kind = [115, 117]) = false ∧ dataF (shapeL e.kind) = false ∧ encEv e = headL e ++ putL e.ref.toNat)
    ∨ (shapeL e.kind = [115, 117] ∧ (shapeL e.kind).contains 114 = false ∧ (shapeL e.kind).contains 115 = true ∧ (shapeL e.kind).contains 116 = false ∧ decide (shapeL e.kind = [115, 117]) = true ∧ dataF (shapeL e.kind) = false ∧ encEv e = headL e ++ putL e.step.toNat ++ putL (if e.undo then 1 else 0))
    ∨ (shapeL e.kind = [114, 116] ∧ (shapeL e.kind).contains 114 = true ∧ (shapeL e.kind).contains 115 = false ∧ (shapeL e.kind).contains 116 = true ∧ decide (shapeL e.kind = [115, 117]) = false ∧ dataF (shapeL e.kind) = false ∧ encEv e = headL e ++ putL e.ref.toNat ++ putL e.tryN.toNat)
    ∨ (shapeL e.kind = [115] ∧ (shapeL e.kind).contains 114 = false ∧ (shapeL e.kind).contains 115 = true ∧ (shapeL e.kind).contains 116 = false ∧ decide (shapeL e.kind = [115, 117]) = false ∧ dataF (shapeL e.kind) = false ∧ encEv e = headL e ++ putL e.step.toNat)
    ∨ (shapeL e.kind = [110] ∧ (shapeL e.kind).contains 114 = false ∧ (shapeL e.kind).contains 115 = false ∧ (shapeL e.kind).contains 116 = false ∧ decide (shapeL e.kind = [115, 117]) = false ∧ dataF (shapeL e.kind) = true ∧ encEv e = headL e ++ textL e.data)
    ∨ (shapeL e.kind = [] ∧ (shapeL e.kind).contains 114 = false ∧ (shapeL e.kind).contains 115 = false ∧ (shapeL e.kind).contains 116 = false ∧ decide (shapeL e.kind = [115, 117]) = false ∧ dataF (shapeL e.kind) = false ∧ encEv e = headL e) := by
  rcases shape_cases e.kind.toNat with h | h | h | h | h | h | h
  all_goals
    have h2 : shapeL e.kind = _ := h
    rw [h2]
  · exact .inl ⟨rfl, by decide, by decide, by decide, by decide, by decide, by unfold encEv fldsL; rw [h2]; simp [fldL]⟩
  · exact .inr (.inl ⟨rfl, by decide, by decide, by decide, by decide, by decide, by unfold encEv fldsL; rw [h2]; simp [fldL]⟩)
  · exact .inr (.inr (.inl ⟨rfl, by decide, by decide, by decide, by decide, by decide, by unfold encEv fldsL; rw [h2]; simp [fldL]⟩))
  · exact .inr (.inr (.inr (.inl ⟨rfl, by decide, by decide, by decide, by decide, by decide, by unfold encEv fldsL; rw [h2]; simp [fldL]⟩)))
  · exact .inr (.inr (.inr (.inr (.inl ⟨rfl, by decide, by decide, by decide, by decide, by decide, by unfold encEv fldsL; rw [h2]; simp [fldL]⟩))))
  · exact .inr (.inr (.inr (.inr (.inr (.inl ⟨rfl, by decide, by decide, by decide, by decide, by decide, by unfold encEv fldsL; rw [h2]; simp [fldL]⟩)))))
  · exact .inr (.inr (.inr (.inr (.inr (.inr ⟨rfl, by decide, by decide, by decide, by decide, by decide, by unfold encEv fldsL; rw [h2]; simp⟩)))))

set_option maxHeartbeats 8000000 in
set_option maxRecDepth 100000 in
theorem encode13_any (e : EvS) (hd : e.data.size ≤ 140737488351232) (w : World) :
    Calls Try.prog 10 #[e.val'] w fun x w' => x = .returned (.tuple #[.string (encES e), .int .i64 (encEE e : Nat)]) ∧ Below w.heap.size w w' := by
  obtain ⟨w0, hw0⟩ : ∃ w0, w.alloc (.cells #[.int .i64 e.id, .int .i64 e.kind, .int .i64 e.tick, .int .i64 e.ref, .int .i64 e.step, .int .i64 e.tryN, .bool e.undo, .string e.data] 23) = w0 := ⟨_, rfl⟩
  have hb0 : Below w.heap.size w w0 := by rw [← hw0]; exact (Below.refl _ w).alloc (Nat.le_refl _) _
  have hnw : w0.heap[w.heap.size]? = some (.cells #[.int .i64 e.id, .int .i64 e.kind, .int .i64 e.tick, .int .i64 e.ref, .int .i64 e.step, .int .i64 e.tryN, .bool e.undo, .string e.data] 23 (0, 0)) := by rw [← hw0]; exact heap_alloc_new _ _
  have hri := check13_any e hd w0
  have HB := Lib.hid hb0
  have SX : Hid (∀ w', Below w0.heap.size w0 w' → w'.cell? ⟨w.heap.size, 0, none⟩ = some (.int .i64 e.id) ∧ w'.cell? ⟨w.heap.size, 1, none⟩ = some (.int .i64 e.kind) ∧ w'.cell? ⟨w.heap.size, 2, none⟩ = some (.int .i64 e.tick) ∧ w'.cell? ⟨w.heap.size, 3, none⟩ = some (.int .i64 e.ref) ∧ w'.cell? ⟨w.heap.size, 4, none⟩ = some (.int .i64 e.step) ∧ w'.cell? ⟨w.heap.size, 5, none⟩ = some (.int .i64 e.tryN) ∧ w'.cell? ⟨w.heap.size, 6, none⟩ = some (.bool e.undo) ∧ w'.cell? ⟨w.heap.size, 7, none⟩ = some (.string e.data)) := fun w' t => by
    have e := (t.block _ (block_lt hnw)).trans hnw
    rw [block_cell e, block_cell e, block_cell e, block_cell e, block_cell e, block_cell e, block_cell e, block_cell e]
    exact ⟨rfl, rfl, rfl, rfl, rfl, rfl, rfl, rfl⟩
  obtain ⟨c0, c1, c2, c3, c4, c5, c6, c7⟩ := SX.out w0 (Below.refl _ _)
  by_cases hp : evB e = true
  · have hS : encES e = bx (encEv e) := if_pos hp
    have hE : encEE e = 0 := if_pos hp
    rw [hS, hE]
    rw [hE] at hri
    have hbits := enc_bits e
    obtain ⟨n1, n2, n3, n4, n5, n6, e1, e2, e3, e4, e5, e6, l1, l2, l3, l4, l5, l6, l7⟩ := ev_nums hp
    have hz : (bx (putL n1) ++ bx (putL n2)) ++ bx (putL n3) = bx (headL e) := by
      rw [bx_app, bx_app]
      simp [headL, e1, e2, e3]
    have s1 : (bx (putL n1)).size ≤ 10 := by rw [bx_size]; exact putL_len10 (show n1 < _ by omega)
    have s2 : (bx (putL n2)).size ≤ 10 := by rw [bx_size]; exact putL_len10 (show n2 < _ by omega)
    have s3 : (bx (putL n3)).size ≤ 10 := by rw [bx_size]; exact putL_len10 (show n3 < _ by omega)
    have s4 : (bx (putL n4)).size ≤ 10 := by rw [bx_size]; exact putL_len10 (show n4 < _ by omega)
    have s5 : (bx (putL n5)).size ≤ 10 := by rw [bx_size]; exact putL_len10 (show n5 < _ by omega)
    have s6 : (bx (putL n6)).size ≤ 10 := by rw [bx_size]; exact putL_len10 (show n6 < _ by omega)
    have s7 : (bx (putL (if e.undo then 1 else 0))).size ≤ 10 := by rw [bx_size]; exact putL_len10 (by show (if e.undo = true then 1 else 0) < _; split <;> omega)
    have s8 : (bx (textL e.data)).size ≤ 1010 := by
      have e9 : e.data.data.toList.length = e.data.size := by simp
      have := putL_len10 (n := e.data.size) (by show _ < _; omega)
      rw [bx_size]; unfold textL; rw [List.length_append]; omega
    have s0 : (bx (headL e)).size ≤ 30 := by rw [← hz]; simp only [ByteArray.size_append]; omega
    obtain ⟨id, kind, tick, ref, step, tryN, undo, data⟩ := e
    simp only at e1 e2 e3 e4 e5 e6 l7 hd SX hnw c0 c1 c2 c3 c4 c5 c6 c7 hbits s7 s8
    subst e1 e2 e3 e4 e5 e6
    simp only [Int.toNat_natCast] at hbits
    have k1 : ¬ 9223372036854775807 < (bx (putL n1)).size + (bx (putL n2)).size := by omega
    have k2 : ¬ 9223372036854775807 < (bx (putL n1)).size + (bx (putL n2)).size + (bx (putL n3)).size := by omega
    have hI1 := fun w => number13_any n1 (by omega) w
    have hI2 := fun w => number13_any n2 (by omega) w
    have hI3 := fun w => number13_any n3 (by omega) w
    have HI4 := Lib.hid (fun w => number13_any n4 (by omega) w)
    have HI5 := Lib.hid (fun w => number13_any n5 (by omega) w)
    have HI6 := Lib.hid (fun w => number13_any n6 (by omega) w)
    have HI7 := Lib.hid (fun w => flag13_any undo w)
    have HI8 := Lib.hid (fun w => text_bx data (by omega) w)
    have R4 := fun w p (h : MaskAt w p (n2 : Int)) => has_ref h
    have R5 := fun w p (h : MaskAt w p (n2 : Int)) => has_step h
    have R6 := fun w p (h : MaskAt w p (n2 : Int)) => has_try h
    have R7 := fun w p (h : MaskAt w p (n2 : Int)) => has_undo h
    have R8 := fun w p (h : MaskAt w p (n2 : Int)) => has_data h
    have HFO := Lib.hid (fieldsOf_any (n2 : Int))
    have hbits2 : Hid (∃ (b4 b5 b6 b7 b8 : Bool) (f : List UInt8), shapeL (n2 : Int) = f ∧ f.contains 114 = b4 ∧ f.contains 115 = b5 ∧ f.contains 116 = b6 ∧ decide (f = [115, 117]) = b7 ∧ dataF f = b8
      ∧ ((b4 = false ∧ b5 = false ∧ b6 = false ∧ b7 = false ∧ b8 = true ∧ bx (encEv ⟨n1, n2, n3, n4, n5, n6, undo, data⟩) = bx (headL ⟨n1, n2, n3, n4, n5, n6, undo, data⟩) ++ bx (textL data))
        ∨ (b4 = true ∧ b5 = false ∧ b6 = false ∧ b7 = false ∧ b8 = false ∧ bx (encEv ⟨n1, n2, n3, n4, n5, n6, undo, data⟩) = bx (headL ⟨n1, n2, n3, n4, n5, n6, undo, data⟩) ++ bx (putL n4))
        ∨ (b4 = false ∧ b5 = true ∧ b6 = false ∧ b7 = true ∧ b8 = false ∧ bx (encEv ⟨n1, n2, n3, n4, n5, n6, undo, data⟩) = bx (headL ⟨n1, n2, n3, n4, n5, n6, undo, data⟩) ++ bx (putL n5) ++ bx (putL (if undo then 1 else 0)))
        ∨ (b4 = true ∧ b5 = false ∧ b6 = true ∧ b7 = false ∧ b8 = false ∧ bx (encEv ⟨n1, n2, n3, n4, n5, n6, undo, data⟩) = bx (headL ⟨n1, n2, n3, n4, n5, n6, undo, data⟩) ++ bx (putL n4) ++ bx (putL n6))
        ∨ (b4 = false ∧ b5 = true ∧ b6 = false ∧ b7 = false ∧ b8 = false ∧ bx (encEv ⟨n1, n2, n3, n4, n5, n6, undo, data⟩) = bx (headL ⟨n1, n2, n3, n4, n5, n6, undo, data⟩) ++ bx (putL n5))
        ∨ (b4 = false ∧ b5 = false ∧ b6 = false ∧ b7 = false ∧ b8 = false ∧ bx (encEv ⟨n1, n2, n3, n4, n5, n6, undo, data⟩) = bx (headL ⟨n1, n2, n3, n4, n5, n6, undo, data⟩)))) := by
      simp only [bx_app]
      refine ⟨_, _, _, _, _, _, rfl, rfl, rfl, rfl, rfl, rfl, ?_⟩
      rcases hbits with ⟨hf, q4, q5, q6, q7, q8, q9⟩ | ⟨hf, q4, q5, q6, q7, q8, q9⟩ | ⟨hf, q4, q5, q6, q7, q8, q9⟩ | ⟨hf, q4, q5, q6, q7, q8, q9⟩ | ⟨hf, q4, q5, q6, q7, q8, q9⟩ | ⟨hf, q4, q5, q6, q7, q8, q9⟩ | ⟨hf, q4, q5, q6, q7, q8, q9⟩
      · exact .inl ⟨q4, q5, q6, q7, q8, by rw [q9]⟩
      · exact .inr (.inl ⟨q4, q5, q6, q7, q8, by rw [q9]⟩)
      · exact .inr (.inr (.inl ⟨q4, q5, q6, q7, q8, by rw [q9]⟩))
      · exact .inr (.inr (.inr (.inl ⟨q4, q5, q6, q7, q8, by rw [q9]⟩)))
      · exact .inr (.inr (.inr (.inr (.inl ⟨q4, q5, q6, q7, q8, by rw [q9]⟩))))
      · exact .inl ⟨q4, q5, q6, q7, q8, by rw [q9]⟩
      · exact .inr (.inr (.inr (.inr (.inr ⟨q4, q5, q6, q7, q8, by rw [q9]⟩))))
    have s0b := s0
    have hzb := hz
    unfold EvS.val' at hri ⊢
    simp only at hri ⊢
    generalize bx (encEv ⟨n1, n2, n3, n4, n5, n6, undo, data⟩) = FI at *
    generalize bx (headL ⟨n1, n2, n3, n4, n5, n6, undo, data⟩) = T0 at *
    generalize bx (putL n1) = T1 at *
    generalize bx (putL n2) = T2 at *
    generalize bx (putL n3) = T3 at *
    generalize bx (putL n4) = F4 at *
    generalize bx (putL n5) = F5 at *
    generalize bx (putL n6) = F6 at *
    generalize bx (putL (if undo then 1 else 0)) = F7 at *
    generalize bx (textL data) = F8 at *
    have m4 : ¬ 9223372036854775807 < T0.size + F4.size := by omega
    have m5 : ¬ 9223372036854775807 < T0.size + F5.size := by omega
    have m8 : ¬ 9223372036854775807 < T0.size + F8.size := by omega
    have m6 : ¬ 9223372036854775807 < T0.size + F4.size + F6.size := by omega
    have m7 : ¬ 9223372036854775807 < T0.size + F5.size + F7.size := by omega
    obtain ⟨b4, b5, b6, b7, b8, f, hf, q4, q5, q6, q7, q8, hcs⟩ := hbits2.out
    rw [hf] at R4 R5 R6 R7 R8
    rw [q4] at R4
    rw [q5] at R5
    rw [q6] at R6
    rw [q7] at R7
    rw [q8] at R8
    have S4 := Lib.hid R4
    have S5 := Lib.hid R5
    have S6 := Lib.hid R6
    have S7 := Lib.hid R7
    have S8 := Lib.hid R8
    have HRI := Lib.hid hri
    have Z1 := Lib.hid hz
    have HI1 := Lib.hid hI1
    have HI2 := Lib.hid hI2
    have HI3 := Lib.hid hI3
    clear hbits hbits2 hri hz hzb s0b s0 s1 s2 s3 s4 s5 s6 s7 s8 hS hE hp hb0 hnw hI1 hI2 hI3 R4 R5 R6 R7 R8 hf q4 q5 q6 q7 q8
    have HCS := Lib.hid hcs
    clear hcs
    go_enter Try.func10, Try.ntmps10
    go_wp2_with fail
    refine HRI.out.mono ?_
    rintro x w1 ⟨rfl, b1⟩
    have B1 := Lib.hid b1
    clear b1 c0 c1 c2 c3 c4 c5 c6 c7
    obtain ⟨c0, c1, c2, c3, c4, c5, c6, c7⟩ := SX.out w1 B1.out
    clear c0 c2 c3 c4 c5 c6 c7
    go_wp2_with fail
    refine (HFO.out _).mono ?_
    rintro x w2 ⟨rfl, mk, b2⟩
    have MK := Lib.hid mk
    have B2 := Lib.hid (B1.out.trans (b2.mono B1.out.size))
    clear mk b2 c1
    have d0 := fun (y : BW w2) => (SX.out y.w' (B2.out.trans (y.below.mono B2.out.size))).1
    have d1 := fun (y : BW w2) => (SX.out y.w' (B2.out.trans (y.below.mono B2.out.size))).2.1
    have d2 := fun (y : BW w2) => (SX.out y.w' (B2.out.trans (y.below.mono B2.out.size))).2.2.1
    go_upto_region 5 with (fail)
    refine region_class (w := w2) ⟨w2, Below.refl _ _⟩ rfl (by kernel_rfl) (by kernel_rfl) ?_
    repeat (go_big_quiet_step ((go_at_call 21; first | with_reducible exact class_call (HI1.out _) | with_reducible exact class_call (HI2.out _) | with_reducible exact class_call (HI3.out _))))
    refine wpQuiet_nil ?_
    rintro _ ⟨y, rfl⟩
    have BY := Lib.hid (B2.out.trans (y.below.mono B2.out.size))
    have MY := Lib.hid (MK.out.later y.below)
    rw [Z1.out]
    clear d0 d1 d2 k1 k2
    clear Z1 MK B1 B2 HI1 HI2 HI3 HFO HRI
    generalize y.w' = w3 at *
    generalize w1.heap.size = pm at *
    obtain ⟨c0, c1, c2, c3, c4, c5, c6, c7⟩ := SX.out w3 BY.out
    clear c0 c1 c2
    rcases HCS.out with ⟨rfl, rfl, rfl, rfl, rfl, hfi⟩ | ⟨rfl, rfl, rfl, rfl, rfl, hfi⟩ | ⟨rfl, rfl, rfl, rfl, rfl, hfi⟩ | ⟨rfl, rfl, rfl, rfl, rfl, hfi⟩ | ⟨rfl, rfl, rfl, rfl, rfl, hfi⟩ | ⟨rfl, rfl, rfl, rfl, rfl, hfi⟩
    · have HFI := Lib.hid hfi
      clear hfi HCS
      go_wp2_with fail
      refine (S4.out _ _ MY.out).mono ?_
      rintro x w9 ⟨rfl, rfl⟩
      go_wp2_with fail
      refine (S5.out _ _ MY.out).mono ?_
      rintro x w9 ⟨rfl, rfl⟩
      go_wp2_with fail
      refine (S6.out _ _ MY.out).mono ?_
      rintro x w9 ⟨rfl, rfl⟩
      go_wp2_with fail
      refine (S7.out _ _ MY.out).mono ?_
      rintro x w9 ⟨rfl, rfl⟩
      go_wp2_with fail
      refine (S8.out _ _ MY.out).mono ?_
      rintro x w9 ⟨rfl, rfl⟩
      go_wp2_with fail
      refine (HI8.out _).mono ?_
      rintro x w10 ⟨rfl, b4⟩
      have BY := Lib.hid (BY.out.trans (b4.mono BY.out.size))
      have MY := Lib.hid (MY.out.later b4)
      clear c3 c4 c5 c6 c7 b4
      obtain ⟨c0, c1, c2, c3, c4, c5, c6, c7⟩ := SX.out w10 BY.out
      clear c0 c1 c2
      go_wp2
      go_ret2
      exact ⟨by rw [HFI.out]; rfl, HB.out.trans (BY.out.mono HB.out.size)⟩
    · have HFI := Lib.hid hfi
      clear hfi HCS
      go_wp2_with fail
      refine (S4.out _ _ MY.out).mono ?_
      rintro x w9 ⟨rfl, rfl⟩
      go_wp2_with fail
      refine (HI4.out _).mono ?_
      rintro x w10 ⟨rfl, b4⟩
      have BY := Lib.hid (BY.out.trans (b4.mono BY.out.size))
      have MY := Lib.hid (MY.out.later b4)
      clear c3 c4 c5 c6 c7 b4
      obtain ⟨c0, c1, c2, c3, c4, c5, c6, c7⟩ := SX.out w10 BY.out
      clear c0 c1 c2
      go_wp2_with fail
      refine (S5.out _ _ MY.out).mono ?_
      rintro x w9 ⟨rfl, rfl⟩
      go_wp2_with fail
      refine (S6.out _ _ MY.out).mono ?_
      rintro x w9 ⟨rfl, rfl⟩
      go_wp2_with fail
      refine (S7.out _ _ MY.out).mono ?_
      rintro x w9 ⟨rfl, rfl⟩
      go_wp2_with fail
      refine (S8.out _ _ MY.out).mono ?_
      rintro x w9 ⟨rfl, rfl⟩
      go_wp2
      go_ret2
      exact ⟨by rw [HFI.out]; rfl, HB.out.trans (BY.out.mono HB.out.size)⟩
    · have HFI := Lib.hid hfi
      clear hfi HCS
      go_wp2_with fail
      refine (S4.out _ _ MY.out).mono ?_
      rintro x w9 ⟨rfl, rfl⟩
      go_wp2_with fail
      refine (S5.out _ _ MY.out).mono ?_
      rintro x w9 ⟨rfl, rfl⟩
      go_wp2_with fail
      refine (HI5.out _).mono ?_
      rintro x w10 ⟨rfl, b4⟩
      have BY := Lib.hid (BY.out.trans (b4.mono BY.out.size))
      have MY := Lib.hid (MY.out.later b4)
      clear c3 c4 c5 c6 c7 b4
      obtain ⟨c0, c1, c2, c3, c4, c5, c6, c7⟩ := SX.out w10 BY.out
      clear c0 c1 c2
      go_wp2_with fail
      refine (S6.out _ _ MY.out).mono ?_
      rintro x w9 ⟨rfl, rfl⟩
      go_wp2_with fail
      refine (S7.out _ _ MY.out).mono ?_
      rintro x w9 ⟨rfl, rfl⟩
      go_wp2_with fail
      refine (HI7.out _).mono ?_
      rintro x w11 ⟨rfl, b4⟩
      have BY := Lib.hid (BY.out.trans (b4.mono BY.out.size))
      have MY := Lib.hid (MY.out.later b4)
      clear c3 c4 c5 c6 c7 b4
      obtain ⟨c0, c1, c2, c3, c4, c5, c6, c7⟩ := SX.out w11 BY.out
      clear c0 c1 c2
      go_wp2_with fail
      refine (S8.out _ _ MY.out).mono ?_
      rintro x w9 ⟨rfl, rfl⟩
      go_wp2
      go_ret2
      exact ⟨by rw [HFI.out]; rfl, HB.out.trans (BY.out.mono HB.out.size)⟩
    · have HFI := Lib.hid hfi
      clear hfi HCS
      go_wp2_with fail
      refine (S4.out _ _ MY.out).mono ?_
      rintro x w9 ⟨rfl, rfl⟩
      go_wp2_with fail
      refine (HI4.out _).mono ?_
      rintro x w10 ⟨rfl, b4⟩
      have BY := Lib.hid (BY.out.trans (b4.mono BY.out.size))
      have MY := Lib.hid (MY.out.later b4)
      clear c3 c4 c5 c6 c7 b4
      obtain ⟨c0, c1, c2, c3, c4, c5, c6, c7⟩ := SX.out w10 BY.out
      clear c0 c1 c2
      go_wp2_with fail
      refine (S5.out _ _ MY.out).mono ?_
      rintro x w9 ⟨rfl, rfl⟩
      go_wp2_with fail
      refine (S6.out _ _ MY.out).mono ?_
      rintro x w9 ⟨rfl, rfl⟩
      go_wp2_with fail
      refine (HI6.out _).mono ?_
      rintro x w11 ⟨rfl, b4⟩
      have BY := Lib.hid (BY.out.trans (b4.mono BY.out.size))
      have MY := Lib.hid (MY.out.later b4)
      clear c3 c4 c5 c6 c7 b4
      obtain ⟨c0, c1, c2, c3, c4, c5, c6, c7⟩ := SX.out w11 BY.out
      clear c0 c1 c2
      go_wp2_with fail
      refine (S7.out _ _ MY.out).mono ?_
      rintro x w9 ⟨rfl, rfl⟩
      go_wp2_with fail
      refine (S8.out _ _ MY.out).mono ?_
      rintro x w9 ⟨rfl, rfl⟩
      go_wp2
      go_ret2
      exact ⟨by rw [HFI.out]; rfl, HB.out.trans (BY.out.mono HB.out.size)⟩
    · have HFI := Lib.hid hfi
      clear hfi HCS
      go_wp2_with fail
      refine (S4.out _ _ MY.out).mono ?_
      rintro x w9 ⟨rfl, rfl⟩
      go_wp2_with fail
      refine (S5.out _ _ MY.out).mono ?_
      rintro x w9 ⟨rfl, rfl⟩
      go_wp2_with fail
      refine (HI5.out _).mono ?_
      rintro x w10 ⟨rfl, b4⟩
      have BY := Lib.hid (BY.out.trans (b4.mono BY.out.size))
      have MY := Lib.hid (MY.out.later b4)
      clear c3 c4 c5 c6 c7 b4
      obtain ⟨c0, c1, c2, c3, c4, c5, c6, c7⟩ := SX.out w10 BY.out
      clear c0 c1 c2
      go_wp2_with fail
      refine (S6.out _ _ MY.out).mono ?_
      rintro x w9 ⟨rfl, rfl⟩
      go_wp2_with fail
      refine (S7.out _ _ MY.out).mono ?_
      rintro x w9 ⟨rfl, rfl⟩
      go_wp2_with fail
      refine (S8.out _ _ MY.out).mono ?_
      rintro x w9 ⟨rfl, rfl⟩
      go_wp2
      go_ret2
      exact ⟨by rw [HFI.out]; rfl, HB.out.trans (BY.out.mono HB.out.size)⟩
    · have HFI := Lib.hid hfi
      clear hfi HCS
      go_wp2_with fail
      refine (S4.out _ _ MY.out).mono ?_
      rintro x w9 ⟨rfl, rfl⟩
      go_wp2_with fail
      refine (S5.out _ _ MY.out).mono ?_
      rintro x w9 ⟨rfl, rfl⟩
      go_wp2_with fail
      refine (S6.out _ _ MY.out).mono ?_
      rintro x w9 ⟨rfl, rfl⟩
      go_wp2_with fail
      refine (S7.out _ _ MY.out).mono ?_
      rintro x w9 ⟨rfl, rfl⟩
      go_wp2_with fail
      refine (S8.out _ _ MY.out).mono ?_
      rintro x w9 ⟨rfl, rfl⟩
      go_wp2
      go_ret2
      exact ⟨by rw [HFI.out]; rfl, HB.out.trans (BY.out.mono HB.out.size)⟩
  · have hS : encES e = bx [] := if_neg hp
    have hE : encEE e = 120 := if_neg hp
    rw [hS, hE]
    rw [hE] at hri
    have HRI := Lib.hid hri
    unfold EvS.val' at HRI ⊢
    clear hri hS hE hp hb0 hnw SX
    go_enter Try.func10, Try.ntmps10
    go_wp2_with fail
    refine HRI.out.mono ?_
    rintro e w1 ⟨rfl, b1⟩
    have B1 := Lib.hid (HB.out.trans (b1.mono HB.out.size))
    clear b1 c0 c1 c2 c3 c4 c5 c6 c7
    go_wp2
    go_ret2
    exact ⟨rfl, B1.out⟩
end Go.Proofs.Ythliofijioghkaa

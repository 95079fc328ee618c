/- Layer 14: contracts of the program's canCome, check. -/
import Derived.Test.YtlkfpeefjpmmfaaW14e
import Derived.Test.YtlkfpeefjpmmfaaW13c
import Derived.Deep.RegionHeld3
import Derived.Laws.EntriesVeiled
namespace Go.Proofs.Ytlkfpeefjpmmfaa
open Go.RowKit
set_option linter.unusedVariables false

section
variable {S : StS} {e : EvS}
theorem can_2 (h : e.kind = 2) : canS S e = ((S.asked == 0) && (S.taken == 0) && S.fresh) := by unfold canS; simp [h]; rfl
theorem can_3 (h : e.kind = 3) : canS S e = (S.asked == e.ref) := by unfold canS; simp [h]; rfl
theorem can_45 (h : e.kind = 4 ∨ e.kind = 5) : canS S e = (S.taken == e.ref) := by unfold canS; rcases h with h | h <;> simp [h] <;> rfl
theorem can_6 (h : e.kind = 6) : canS S e = (((stepG S.prog e.step).kind == 1) && (!((stepG S.prog e.step).undo.toList == []) || !e.undo)) := by
  unfold canS
  simp only [h]
  rw [if_neg (by decide), if_neg (by decide), if_neg (by decide), if_pos trivial, stepG_is _ _ _ (by decide)]
  by_cases hk : (stepG S.prog e.step).kind = 1
  · have hi : stepIs S.prog e.step 1 = true := by rw [stepG_is _ _ _ (by decide), decide_eq_true hk]
    rw [stepG_at hi, hk]
    have hs : decide ((stepG S.prog e.step).undo.size ≠ 0) = !((stepG S.prog e.step).undo.toList == []) := by
      generalize (stepG S.prog e.step).undo = u
      by_cases hu : u.size = 0
      · rw [ba_zero hu, ByteArray.toList_eq]; rfl
      · have : u.toList ≠ [] := fun hn => hu (by rw [← ByteArray.size_data, ← Array.length_toList, ← ByteArray.toList_eq, hn]; rfl)
        simp [hu, this]
    rw [hs]
    cases (!((stepG S.prog e.step).undo.toList == [])) <;> cases e.undo <;> rfl
  · have g : ((stepG S.prog e.step).kind == 1) = false := by simp [hk]
    rw [decide_eq_false hk, g]
    rfl
theorem can_7 (hg : GoodS S) (h : e.kind = 7) : canS S e = S.jobs.any (isT e) := by
  have : canS S e = triedS S.prog S.jobs e := by unfold canS; simp [h]
  rw [this, tried_is hg (.inl h)]
  congr 1
  funext j
  unfold jobQ
  rw [if_pos h, Bool.and_true]
theorem can_8 (hg : GoodS S) (h : e.kind = 8) : canS S e = S.jobs.any fun j => isT e j && decide (j.tryN < triesG S.prog j) := by
  have : canS S e = triedS S.prog S.jobs e := by unfold canS; simp [h]
  rw [this, tried_is hg (.inr (.inl h))]
  congr 1
  funext j
  unfold jobQ
  rw [if_neg (by rw [h]; decide), if_pos h]
theorem can_9 (hg : GoodS S) (h : e.kind = 9) : canS S e = S.jobs.any fun j => isT e j && decide (j.tryN = triesG S.prog j) := by
  have : canS S e = triedS S.prog S.jobs e := by unfold canS; simp [h]
  rw [this, tried_is hg (.inr (.inr h))]
  congr 1
  funext j
  unfold jobQ
  rw [if_neg (by rw [h]; decide), if_neg (by rw [h]; decide)]
theorem can_10 (h : e.kind = 10) : canS S e = ((stepG S.prog e.step).kind == 2) := by
  have : canS S e = stepIs S.prog e.step 2 := by unfold canS; simp [h]
  rw [this, stepG_is _ _ _ (by decide)]
  rfl
theorem can_11 (hg : GoodS S) (h : e.kind = 11) : canS S e = S.clocks.any (isF e) := by
  have : canS S e = firedS S.clocks e := by unfold canS; simp [h]
  rw [this, fired_is hg]
theorem can_13 (h : e.kind = 13) : canS S e = !S.cancel := by unfold canS; simp [h]
theorem can_14 (h : e.kind = 14) : canS S e = (!S.overdue && !(S.prog.limit == 0) && decide (S.began + S.prog.limit ≤ e.tick)) := by
  unfold canS
  simp only [h]
  by_cases hl : S.prog.limit = 0
  · simp [hl]
  · have g : (S.prog.limit == 0) = false := by simp [hl]
    simp [hl, g]
theorem can_end (h : e.kind = 15 ∨ e.kind = 16 ∨ e.kind = 17) : canS S e = ((S.asked == 0) && (S.taken == 0) && ((S.jobs.length : Int) == 0)) := by
  have : canS S e = (decide (S.asked = 0) && decide (S.taken = 0) && decide (S.jobs = [])) := by unfold canS; rcases h with h | h | h <;> simp [h]
  rw [this]
  have hj : decide (S.jobs = []) = ((S.jobs.length : Int) == 0) := by
    cases S.jobs with
    | nil => rfl
    | cons x r =>
      have : (((x :: r).length : Int) == 0) = false := by rw [beq_eq_false_iff_ne, List.length_cons]; omega
      rw [this]
      rfl
  rw [hj]
  rfl
theorem can_all (h : e.kind = 12 ∨ e.kind = 18) : canS S e = true := by unfold canS; rcases h with h | h <;> simp [h]
theorem can_none (h : e.kind = 1) : canS S e = false := by unfold canS; simp [h]
end

theorem step_field0 (x : StepS) (w : World) : (Instr.field 53 (.agg #[.int .i64 x.kind, .string x.name, .string x.undo, .int .i64 x.tries, .int .i64 x.undoTries, .int .i64 x.wait]) 0).run Try.prog w = .ok (.int .i64 x.kind) w := by
  unfold Instr.field
  go_simp
  rfl
theorem step_field5 (x : StepS) (w : World) : (Instr.field 53 (.agg #[.int .i64 x.kind, .string x.name, .string x.undo, .int .i64 x.tries, .int .i64 x.undoTries, .int .i64 x.wait]) 5).run Try.prog w = .ok (.int .i64 x.wait) w := by
  unfold Instr.field
  go_simp
  rfl

set_option maxHeartbeats 16000000 in
set_option maxRecDepth 100000 in
theorem canCome_any {w : World} {g j k : Value} (S : StS) (h : ReadSt w g j k S) (hgd : GoodS S) (e : EvS) (hev : evB e = true) :
    Calls Try.prog 31 #[S.val' g j k, e.val'] w fun x w' => x = .returned (.bool (canS S e)) ∧ Below w.heap.size w w' := by
  have hkd := ((evB_iff _).1 hev).kind
  have htk := ((evB_iff _).1 hev).tick
  obtain ⟨ga, gc, rfl⟩ := h.g.slice
  obtain ⟨ja, jc, rfl⟩ := h.j.slice
  obtain ⟨ka, kc, rfl⟩ := h.c.slice
  have HJL := hgd.jl
  have HCL := hgd.cl
  have hbg := hgd.bg
  have hlm : 0 ≤ S.prog.limit ∧ S.prog.limit ≤ 16000 := by
    have := hgd.pg
    unfold progB at this
    simp only [Bool.and_eq_true] at this
    exact inB_iff.1 this.1.2
  have HGD := Lib.hid hgd
  obtain ⟨id, kind, tick, ref, step, tryN, undo, data⟩ := e
  simp only at hkd htk
  obtain ⟨w1, hw1, b1, X1, hs1⟩ := stBoxed w (.slice ga S.prog.steps.length gc) (.slice ja S.jobs.length jc) (.slice ka S.clocks.length kc) S
  obtain ⟨w2, hw2, b2, E2, hs2⟩ := evBoxed w1 ⟨id, kind, tick, ref, step, tryN, undo, data⟩
  have B2 := Lib.hid (b1.trans (b2.mono b1.size))
  have X2 := Lib.hid (X1.later b2)
  have HE2 := Lib.hid E2
  have HR := Lib.hid h
  have HTB := Lib.hid (triedBy_any ⟨id, kind, tick, ref, step, tryN, undo, data⟩)
  obtain ⟨d0, d1, d2, d3, d4, d5, d6, d7⟩ := E2.c
  obtain ⟨V, hV⟩ : ∃ V, V = canS S ⟨id, kind, tick, ref, step, tryN, undo, data⟩ := ⟨_, rfl⟩
  have HV0 := Lib.hid hV
  rw [← hV]
  clear hV
  unfold StS.val' EvS.val' at *
  simp only at hw2 HTB
  clear h hev hgd hs1 hs2 X1 b1 b2 E2
  go_enter Try.func31, Try.ntmps31
  go_wp2_with fail
  refine (HTB.out _).mono ?_
  rintro x w3 ⟨rfl, e3, b3⟩
  obtain ⟨w4, hw4⟩ : ∃ w4, w3.alloc (.cells #[.func (.func 66) #[] #[.pointer (some ⟨w2.heap.size, 0, none⟩)]] 71) = w4 := ⟨_, rfl⟩
  have b4 : Below w3.heap.size w3 w4 := by rw [← hw4]; exact (Below.refl _ w3).alloc (Nat.le_refl _) _
  have n4 : w4.heap[w3.heap.size]? = some (.cells #[.func (.func 66) #[] #[.pointer (some ⟨w2.heap.size, 0, none⟩)]] 71 (0, 0)) := by rw [← hw4]; exact heap_alloc_new _ _
  have b24 := b3.trans (b4.mono b3.size)
  have B4 := Lib.hid (B2.out.trans (b24.mono B2.out.size))
  have HCAN : Hid (CanAt w4 w3.heap.size w.heap.size w2.heap.size ⟨id, kind, tick, ref, step, tryN, undo, data⟩ (.slice ga S.prog.steps.length gc) (.slice ja S.jobs.length jc) (.slice ka S.clocks.length kc) S) := ⟨e3.later b4, n4, X2.out.later b24, HR.out.g.below B4.out⟩
  have HE4 := Lib.hid (HE2.out.later b24)
  have HR4 := Lib.hid (HR.out.below B4.out)
  have HR0 := HR
  clear d0 d1 d2 d3 d4 d5 d6 d7 e3 b3 b4 n4 b24 HTB HE2 X2 HR
  go_upto_region 2 with (fail)
  (try rw [hw4])
  obtain ⟨d0, d1, d2, d3, d4, d5, d6, d7⟩ := HE4.out.c
  have s0 := (block_cell HCAN.out.st.cells 0).trans rfl
  have s1 := (block_cell HCAN.out.st.cells 1).trans rfl
  have s2 := (block_cell HCAN.out.st.cells 2).trans rfl
  have s3 := (block_cell HCAN.out.st.cells 3).trans rfl
  have s4 := (block_cell HCAN.out.st.cells 4).trans rfl
  have s5 := (block_cell HCAN.out.st.cells 5).trans rfl
  have s6 := (block_cell HCAN.out.st.cells 6).trans rfl
  have s7 := (block_cell HCAN.out.st.cells 7).trans rfl
  have s8 := (block_cell HCAN.out.st.cells 8).trans rfl
  have s9 := (block_cell HCAN.out.st.cells 9).trans rfl
  have s10 := (block_cell HCAN.out.st.cells 10).trans rfl
  have s11 := (block_cell HCAN.out.st.cells 11).trans rfl
  have f0 := (block_cell HCAN.out.fn 0).trans rfl
  clear hw4
  have hks : kind = 1 ∨ kind = 2 ∨ kind = 3 ∨ (kind = 4 ∨ kind = 5) ∨ kind = 6 ∨ kind = 7 ∨ kind = 8 ∨ kind = 9 ∨ kind = 10 ∨ kind = 11 ∨ kind = 13 ∨ kind = 14 ∨ (kind = 15 ∨ kind = 16 ∨ kind = 17) ∨ kind = 12 ∨ kind = 18 := by omega
  clear hkd
  rcases hks with hk | hk | hk | hk | hk | hk | hk | hk | hk | hk | hk | hk | hk | hk
  · have HV := Lib.hid (HV0.out.trans (can_none (S := S) (e := ⟨id, kind, tick, ref, step, tryN, undo, data⟩) hk))
    subst hk
    go_wp2
    go_ret
    exact ⟨by rw [HV.out]; rfl, B4.out⟩
  · have HV := Lib.hid (HV0.out.trans (can_2 (S := S) (e := ⟨id, kind, tick, ref, step, tryN, undo, data⟩) hk))
    subst hk
    have HU := Lib.hid (undecided_any (w := w4) (g := .slice ga S.prog.steps.length gc) (j := .slice ja S.jobs.length jc) (k := .slice ka S.clocks.length kc) S)
    unfold StS.val' at HU
    generalize (S.asked == 0 && S.taken == 0) = U at *
    cases U with
    | true =>
      go_wp2_with fail
      refine HU.out.mono ?_
      rintro x w5 ⟨rfl, b5⟩
      have B5 := Lib.hid (B4.out.trans (b5.mono B4.out.size))
      have p7 := (block_cell (HCAN.out.st.later b5).cells 7).trans rfl
      clear b5
      go_wp2
      go_ret
      exact ⟨by rw [HV.out]; rfl, B5.out⟩
    | false =>
      go_wp2_with fail
      refine HU.out.mono ?_
      rintro x w5 ⟨rfl, b5⟩
      have B5 := Lib.hid (B4.out.trans (b5.mono B4.out.size))
      clear b5
      go_wp2
      go_ret
      exact ⟨by rw [HV.out]; rfl, B5.out⟩
  · have HV := Lib.hid (HV0.out.trans (can_3 (S := S) (e := ⟨id, kind, tick, ref, step, tryN, undo, data⟩) hk))
    subst hk
    go_wp2
    go_ret
    exact ⟨by rw [HV.out]; rfl, B4.out⟩
  · have HV := Lib.hid (HV0.out.trans (can_45 (S := S) (e := ⟨id, kind, tick, ref, step, tryN, undo, data⟩) hk))
    rcases hk with hk | hk
    all_goals
      subst hk
      go_wp2
      go_ret
      exact ⟨by rw [HV.out]; rfl, B4.out⟩
  · have HV := Lib.hid (HV0.out.trans (can_6 (S := S) (e := ⟨id, kind, tick, ref, step, tryN, undo, data⟩) hk))
    subst hk
    have HSO := Lib.hid (stepOf_any (j := .slice ja S.jobs.length jc) (k := .slice ka S.clocks.length kc) S HR4.out.g step)
    simp only at HV
    generalize stepG S.prog step = G at *
    unfold StS.val' StepS.val' at HSO
    go_wp2_with fail
    refine HSO.out.mono ?_
    rintro x w5 ⟨rfl, b5⟩
    obtain ⟨w6, hw6⟩ : ∃ w6, w5.alloc (.cells #[.int .i64 G.kind, .string G.name, .string G.undo, .int .i64 G.tries, .int .i64 G.undoTries, .int .i64 G.wait] 53) = w6 := ⟨_, rfl⟩
    have b6 : Below w5.heap.size w5 w6 := by rw [← hw6]; exact (Below.refl _ w5).alloc (Nat.le_refl _) _
    have n6 : w6.heap[w5.heap.size]? = some (.cells #[.int .i64 G.kind, .string G.name, .string G.undo, .int .i64 G.tries, .int .i64 G.undoTries, .int .i64 G.wait] 53 (0, 0)) := by rw [← hw6]; exact heap_alloc_new _ _
    have b46 := b5.trans (b6.mono b5.size)
    have B6 := Lib.hid (B4.out.trans (b46.mono B4.out.size))
    obtain ⟨-, -, -, -, -, -, p6, -⟩ := (HE4.out.later b46).c
    have q0 := (block_cell n6 0).trans rfl
    have q2 := (block_cell n6 2).trans rfl
    clear d0 d1 d2 d3 d4 d5 d6 d7 s0 s1 s2 s3 s4 s5 s6 s7 s8 s9 s10 s11 f0 b5 b6 n6 b46
    go_upto_region 12 with (fail)
    (try rw [hw6])
    clear hw6
    by_cases hg1 : G.kind = 1
    · have g1 : (G.kind == 1) = true := by simp [hg1]
      rw [g1] at HV
      clear hg1
      by_cases hu : G.undo.toList = []
      · have g2 : (G.undo.toList == []) = true := by rw [hu]; rfl
        rw [g2] at HV
        clear g2
        go_wp2
        go_ret
        exact ⟨by rw [HV.out]; cases undo <;> rfl, B6.out⟩
      · have g2 : (G.undo.toList == []) = false := by rw [beq_eq_false_iff_ne]; exact hu
        have g3 : G.undo.toList.isEmpty = false := by simpa using hu
        rw [g2] at HV
        clear hu
        go_wp2
        go_ret
        exact ⟨by rw [HV.out]; rfl, B6.out⟩
    · have g1 : (G.kind == 1) = false := by simp [hg1]
      rw [g1] at HV
      clear hg1
      go_wp2
      go_ret
      exact ⟨by rw [HV.out]; rfl, B6.out⟩
  · have HV := Lib.hid (HV0.out.trans (can_7 (S := S) (e := ⟨id, kind, tick, ref, step, tryN, undo, data⟩) HGD.out hk))
    have HH := Lib.hid (hasJ_any HR4.out.j (by omega) 66 #[.pointer (some ⟨w2.heap.size, 0, none⟩)] enters_tried (isT ⟨id, kind, tick, ref, step, tryN, undo, data⟩) (fun wx t x _ => triedBy1_any (HCAN.out.later t).ev x))
    subst hk
    go_wp2_with fail
    refine HH.out.mono ?_
    rintro x w5 ⟨rfl, b5⟩
    have B5 := Lib.hid (B4.out.trans (b5.mono B4.out.size))
    clear b5 d0 d1 d2 d3 d4 d5 d6 d7 s0 s1 s2 s3 s4 s5 s6 s7 s8 s9 s10 s11 f0
    go_wp2
    go_ret
    exact ⟨by rw [HV.out]; rfl, B5.out⟩
  · have HV := Lib.hid (HV0.out.trans (can_8 (S := S) (e := ⟨id, kind, tick, ref, step, tryN, undo, data⟩) HGD.out hk))
    have HH := Lib.hid (hasJ_any HR4.out.j (by omega) 57 #[.pointer (some ⟨w3.heap.size, 0, none⟩), .pointer (some ⟨w.heap.size, 0, none⟩)] enters_can1 (fun x => isT ⟨id, kind, tick, ref, step, tryN, undo, data⟩ x && decide (x.tryN < triesG S.prog x)) (fun wx t x _ => can1_any (HCAN.out.later t) x))
    subst hk
    generalize (S.jobs.any fun j => isT ⟨id, 8, tick, ref, step, tryN, undo, data⟩ j && decide (j.tryN < triesG S.prog j)) = R at *
    go_wp2_with fail
    refine HH.out.mono ?_
    rintro x w5 ⟨rfl, b5⟩
    have B5 := Lib.hid (B4.out.trans (b5.mono B4.out.size))
    clear b5 d0 d1 d2 d3 d4 d5 d6 d7 s0 s1 s2 s3 s4 s5 s6 s7 s8 s9 s10 s11 f0
    go_wp2
    go_ret
    exact ⟨by rw [HV.out]; rfl, B5.out⟩
  · have HV := Lib.hid (HV0.out.trans (can_9 (S := S) (e := ⟨id, kind, tick, ref, step, tryN, undo, data⟩) HGD.out hk))
    have HH := Lib.hid (hasJ_any HR4.out.j (by omega) 59 #[.pointer (some ⟨w3.heap.size, 0, none⟩), .pointer (some ⟨w.heap.size, 0, none⟩)] enters_can2 (fun x => isT ⟨id, kind, tick, ref, step, tryN, undo, data⟩ x && decide (x.tryN = triesG S.prog x)) (fun wx t x _ => can2_any (HCAN.out.later t) x))
    subst hk
    generalize (S.jobs.any fun j => isT ⟨id, 9, tick, ref, step, tryN, undo, data⟩ j && decide (j.tryN = triesG S.prog j)) = R at *
    go_wp2_with fail
    refine HH.out.mono ?_
    rintro x w5 ⟨rfl, b5⟩
    have B5 := Lib.hid (B4.out.trans (b5.mono B4.out.size))
    clear b5 d0 d1 d2 d3 d4 d5 d6 d7 s0 s1 s2 s3 s4 s5 s6 s7 s8 s9 s10 s11 f0
    go_wp2
    go_ret
    exact ⟨by rw [HV.out]; rfl, B5.out⟩
  · have HV := Lib.hid (HV0.out.trans (can_10 (S := S) (e := ⟨id, kind, tick, ref, step, tryN, undo, data⟩) hk))
    subst hk
    have HSO := Lib.hid (stepOf_any (j := .slice ja S.jobs.length jc) (k := .slice ka S.clocks.length kc) S HR4.out.g step)
    simp only at HV
    generalize stepG S.prog step = G at *
    unfold StS.val' StepS.val' at HSO
    have hfl : ∀ w, (Instr.field 53 (.agg #[.int .i64 G.kind, .string G.name, .string G.undo, .int .i64 G.tries, .int .i64 G.undoTries, .int .i64 G.wait]) 0).run Try.prog w = .ok (.int .i64 G.kind) w := fun w => step_field0 G w
    go_wp2_with fail
    refine HSO.out.mono ?_
    rintro x w5 ⟨rfl, b5⟩
    have B5 := Lib.hid (B4.out.trans (b5.mono B4.out.size))
    clear b5 d0 d1 d2 d3 d4 d5 d6 d7 s0 s1 s2 s3 s4 s5 s6 s7 s8 s9 s10 s11 f0
    go_wp2
    go_ret
    exact ⟨by rw [HV.out]; rfl, B5.out⟩
  · have HV := Lib.hid (HV0.out.trans (can_11 (S := S) (e := ⟨id, kind, tick, ref, step, tryN, undo, data⟩) HGD.out hk))
    have HFB := Lib.hid (firedBy_any ⟨id, kind, tick, ref, step, tryN, undo, data⟩)
    unfold EvS.val' at HFB
    simp only at HFB
    have HHC : Hid (∀ (wb : World) (b : Nat), Below w4.heap.size w4 wb → EvBox wb b ⟨id, kind, tick, ref, step, tryN, undo, data⟩ → Calls Try.prog 60 #[.slice ka S.clocks.length kc, .func (.func 68) #[] #[.pointer (some ⟨b, 0, none⟩)]] wb fun e w' => e = .returned (.bool (S.clocks.any (isF ⟨id, kind, tick, ref, step, tryN, undo, data⟩))) ∧ Below wb.heap.size wb w') :=
      fun wb b t hb => hasC_any (HR4.out.c.below t) (by omega) 68 #[.pointer (some ⟨b, 0, none⟩)] enters_fired _ (fun wx t2 x _ => firedBy1_any (hb.later t2) x)
    have HED : Hid (∀ wb, Below w4.heap.size w4 wb → EvBox wb w1.heap.size ⟨id, kind, tick, ref, step, tryN, undo, data⟩ ∧ StBox wb w.heap.size (.slice ga S.prog.steps.length gc) (.slice ja S.jobs.length jc) (.slice ka S.clocks.length kc) S) := fun wb t => ⟨HE4.out.later t, HCAN.out.st.later t⟩
    subst hk
    generalize S.clocks.any (isF ⟨id, 11, tick, ref, step, tryN, undo, data⟩) = R at *
    go_upto_region 22 with (fail)
    go_region_held3 (fun w' => w'.cell? ⟨w.heap.size, 9, none⟩ = some (.slice ka S.clocks.length kc) ∧ w'.cell? ⟨w1.heap.size, 0, none⟩ = some (.int .i64 id) ∧ w'.cell? ⟨w1.heap.size, 1, none⟩ = some (.int .i64 11) ∧ w'.cell? ⟨w1.heap.size, 2, none⟩ = some (.int .i64 tick) ∧ w'.cell? ⟨w1.heap.size, 3, none⟩ = some (.int .i64 ref) ∧ w'.cell? ⟨w1.heap.size, 4, none⟩ = some (.int .i64 step) ∧ w'.cell? ⟨w1.heap.size, 5, none⟩ = some (.int .i64 tryN) ∧ w'.cell? ⟨w1.heap.size, 6, none⟩ = some (.bool undo) ∧ w'.cell? ⟨w1.heap.size, 7, none⟩ = some (.string data))
      (first | exact ⟨s9, d0, d1, d2, d3, d4, d5, d6, d7⟩ | exact ⟨s9a, d0a, d1a, d2a, d3a, d4a, d5a, d6a, d7a⟩ | exact ⟨s9b, d0b, d1b, d2b, d3b, d4b, d5b, d6b, d7b⟩)
      (first
        | (go_at_call 38; refine (HFB.out _).mono ?_; rintro x w5 ⟨rfl, x5, b5⟩; have B5 := Lib.hid (below_undrew b5); have X5 := Lib.hid x5; have E5 := HED.out _ (below_undrew b5); obtain ⟨d0a, d1a, d2a, d3a, d4a, d5a, d6a, d7a⟩ := E5.1.c; have s9a := (block_cell E5.2.cells 9).trans rfl; clear b5 x5 E5)
        | (go_at_call 60; refine (HHC.out _ _ B5.out X5.out).mono ?_; rintro x w6 ⟨rfl, b6⟩; have B6 := Lib.hid (B5.out.trans (b6.mono B5.out.size)); have E6 := HED.out _ (B5.out.trans (b6.mono B5.out.size)); obtain ⟨d0b, d1b, d2b, d3b, d4b, d5b, d6b, d7b⟩ := E6.1.c; have s9b := (block_cell E6.2.cells 9).trans rfl; clear b6 E6))
    all_goals
      have B7 := Lib.hid (B4.out.trans (B6.out.mono B4.out.size))
      go_wp2
      go_ret
      exact ⟨by rw [HV.out]; rfl, B7.out⟩
  · have HV := Lib.hid (HV0.out.trans (can_13 (S := S) (e := ⟨id, kind, tick, ref, step, tryN, undo, data⟩) hk))
    subst hk
    go_wp2
    go_ret
    exact ⟨by rw [HV.out]; rfl, B4.out⟩
  · have HV := Lib.hid (HV0.out.trans (can_14 (S := S) (e := ⟨id, kind, tick, ref, step, tryN, undo, data⟩) hk))
    subst hk
    simp only at HV
    generalize S.overdue = O at *
    generalize S.prog.limit = LM at *
    generalize S.began = BG at *
    cases O with
    | true =>
      go_wp2
      go_ret
      exact ⟨by rw [HV.out]; rfl, B4.out⟩
    | false =>
      by_cases hl : LM = 0
      · have g1 : (LM == 0) = true := by simp [hl]
        rw [g1] at HV
        have g2 : (LM != 0) = false := by simp [hl]
        clear hl
        go_wp2
        go_ret
        exact ⟨by rw [HV.out]; rfl, B4.out⟩
      · have g1 : (LM == 0) = false := by simp [hl]
        rw [g1] at HV
        have g2 : (LM != 0) = true := by simp [hl]
        clear hl
        go_wp2
        go_ret
        exact ⟨by rw [HV.out]; rfl, B4.out⟩
  · have HV := Lib.hid (HV0.out.trans (can_end (S := S) (e := ⟨id, kind, tick, ref, step, tryN, undo, data⟩) hk))
    have HU := Lib.hid (undecided_any (w := w4) (g := .slice ga S.prog.steps.length gc) (j := .slice ja S.jobs.length jc) (k := .slice ka S.clocks.length kc) S)
    unfold StS.val' at HU
    generalize (S.asked == 0 && S.taken == 0) = U at *
    cases U with
    | true =>
      rcases hk with hk | hk | hk
      all_goals
        subst hk
        go_wp2_with fail
        refine HU.out.mono ?_
        rintro x w5 ⟨rfl, b5⟩
        have B5 := Lib.hid (B4.out.trans (b5.mono B4.out.size))
        have p8 := (block_cell (HCAN.out.st.later b5).cells 8).trans rfl
        clear b5 d0 d1 d2 d3 d4 d5 d6 d7 s0 s1 s2 s3 s4 s5 s6 s7 s8 s9 s10 s11 f0
        go_wp2
        go_ret
        exact ⟨by rw [HV.out]; rfl, B5.out⟩
    | false =>
      rcases hk with hk | hk | hk
      all_goals
        subst hk
        go_wp2_with fail
        refine HU.out.mono ?_
        rintro x w5 ⟨rfl, b5⟩
        have B5 := Lib.hid (B4.out.trans (b5.mono B4.out.size))
        clear b5 d0 d1 d2 d3 d4 d5 d6 d7 s0 s1 s2 s3 s4 s5 s6 s7 s8 s9 s10 s11 f0
        go_wp2
        go_ret
        exact ⟨by rw [HV.out]; rfl, B5.out⟩
  · have HV := Lib.hid (HV0.out.trans (can_all (S := S) (e := ⟨id, kind, tick, ref, step, tryN, undo, data⟩) hk))
    rcases hk with hk | hk
    all_goals
      subst hk
      go_wp2
      go_ret
      exact ⟨by rw [HV.out]; rfl, B4.out⟩
end Go.Proofs.Ytlkfpeefjpmmfaa

/- Layer 14: the contract of the reference's can. -/
import Derived.Test.YtlkfpeefjpmmfaaJ41
namespace Go.Proofs.Ytlkfpeefjpmmfaa
open Go.RowKit
set_option linter.unusedVariables false

/-- A history that has come so far, and an event. -/
theorem can_form {l : List EvS} (hl : l ≠ []) (e : EvS) : canS (stateH l) e = canS ⟨progH l, statusH l, ((l.length + 1 : Nat) : Int), beganH l, askedH l, takenH l, freshH l, jobsH l, clksH l, decide (0 < lastH l 13), decide (0 < lastH l 14)⟩ e := by rw [state_cons hl]
theorem head_at {l : List EvS} (hl : l ≠ []) : ∃ h : 0 < l.length, beganH l = l[0].tick := by
  cases l with
  | nil => exact (hl rfl).elim
  | cons x r => exact ⟨by simp, rfl⟩

set_option maxHeartbeats 8000000 in
set_option maxRecDepth 100000 in
theorem rcan_any {w : World} {v : Value} {l : List EvS} (h : ReadE w v l) (ho : OkH l) (hl : l ≠ []) (e : EvS) (hev : evB e = true) :
    Calls Try.prog 22 #[v, e.val'] w fun x w' => x = .returned (.bool (canS (stateH l) e)) ∧ Below w.heap.size w w' := by
  have hok := (evB_iff e).1 hev
  have hst : (shapeL e.kind).contains 115 = true → 0 ≤ e.step := fun h => (hok.step h).1
  obtain ⟨hl0, hbg⟩ := head_at hl
  have htk0 := ((evB_iff _).1 (ho.ev 0 hl0).2).tick
  have hlim := (progB_parts (ho.prog hl)).2.1
  have hlim2 := (progB_parts (ho.prog hl)).2.2.1
  have hpl : (progH l).steps.length ≤ 16 := (progB_parts (ho.prog hl)).1
  have hkk : e.kind = 1 ∨ e.kind = 2 ∨ e.kind = 3 ∨ e.kind = 4 ∨ e.kind = 5 ∨ e.kind = 6 ∨ e.kind = 7 ∨ e.kind = 8 ∨ e.kind = 9 ∨ e.kind = 10 ∨ e.kind = 11 ∨ e.kind = 12 ∨ e.kind = 13 ∨ e.kind = 14 ∨ e.kind = 15 ∨ e.kind = 16 ∨ e.kind = 17 ∨ e.kind = 18 := by
    have := hok.kind; omega
  have HTR : Hid (∀ wx, Below w.heap.size w wx → (e.kind = 7 ∨ e.kind = 8 ∨ e.kind = 9) → Calls Try.prog 48 #[v, e.val'] wx fun x w' => x = .returned (.bool (triedS (progH l) (jobsH l) e)) ∧ Below wx.heap.size wx w') := fun wx t hk => rtried_any (h.below t) ho hl e hk
  have HFI : Hid (∀ wx, Below w.heap.size w wx → Calls Try.prog 49 #[v, e.val'] wx fun x w' => x = .returned (.bool (firedS (clksH l) e)) ∧ Below wx.heap.size wx w') := fun wx t => rfired_any (h.below t) ho e
  have HPC : Hid (∀ wx, Below w.heap.size w wx → Calls Try.prog 23 #[v] wx fun e w' => ∃ a c, e = .returned ((progH l).val' a c) ∧ ReadG w' (.slice a (progH l).steps.length c) (progH l).steps ∧ Below wx.heap.size wx w') := fun wx t => rprogram_any (h.below t) ho hl
  have HAS : Hid (∀ wx, Below w.heap.size w wx → Calls Try.prog 24 #[v] wx fun x w' => x = .returned (.int .i64 (askedH l : Nat)) ∧ wx = w') := fun wx t => (rasked_any (h.below t)).mono fun e w' h => ⟨h.1, h.2.symm⟩
  have HTA : Hid (∀ wx, Below w.heap.size w wx → Calls Try.prog 25 #[v] wx fun x w' => x = .returned (.int .i64 (takenH l : Nat)) ∧ wx = w') := fun wx t => (rtaken_any (h.below t)).mono fun e w' h => ⟨h.1, h.2.symm⟩
  have HFR : Hid (∀ wx, Below w.heap.size w wx → Calls Try.prog 26 #[v] wx fun x w' => x = .returned (.bool (freshH l)) ∧ wx = w') := fun wx t => (rfresh_any (h.below t)).mono fun e w' h => ⟨h.1, h.2.symm⟩
  have HLA : Hid (∀ wx (k : Int), Below w.heap.size w wx → Calls Try.prog 29 #[v, .int .i64 k] wx fun x w' => x = .returned (.int .i64 (lastH l k : Nat)) ∧ wx = w') := fun wx k t => (rlast_any (h.below t) k).mono fun e w' h => ⟨h.1, h.2.symm⟩
  have HASq : Hid (∀ wx, Below w.heap.size w wx → Calls Try.prog 24 #[v] wx fun x w' => x = .returned (.int .i64 (askedH l : Nat)) ∧ w' = wx) := fun wx t => rasked_any (h.below t)
  have HTAq : Hid (∀ wx, Below w.heap.size w wx → Calls Try.prog 25 #[v] wx fun x w' => x = .returned (.int .i64 (takenH l : Nat)) ∧ w' = wx) := fun wx t => rtaken_any (h.below t)
  have HLAq : Hid (∀ wx (k : Int), Below w.heap.size w wx → Calls Try.prog 29 #[v, .int .i64 k] wx fun x w' => x = .returned (.int .i64 (lastH l k : Nat)) ∧ w' = wx) := fun wx k t => rlast_any (h.below t) k
  have HJO : Hid (∀ wx, Below w.heap.size w wx → Calls Try.prog 27 #[v] wx fun e w' => ∃ v', e = .returned v' ∧ OwnR JobS.cells 4 wx.heap.size w' v' (jobsH l) ∧ Below wx.heap.size wx w') := fun wx t => rjobs_any (h.below t) (Nat.le_trans ho.len (by omega))
  have HKI : Hid (∀ (wx : World) (a : Option Addr) (c : Nat) (i k : Int), ReadG wx (.slice a (progH l).steps.length c) (progH l).steps → 0 ≤ i → Calls Try.prog 47 #[(progH l).val' a c, .int .i64 i, .int .i64 k] wx fun e w' => e = .returned (.bool (stepIs (progH l) i k)) ∧ Below wx.heap.size wx w') := fun wx a c i k r hi => rkind_any (progH l) r i k hi
  have HCF := Lib.hid (can_form hl e)
  have H := Lib.hid h
  have HBG : Hid (beganH l = l[0].tick) := hbg
  obtain ⟨va, vc, rfl⟩ := h.slice
  have HE0 : Hid (∀ wx, Below w.heap.size w wx → ∃ b o, va = some ⟨b, o, none⟩ ∧ wx.cell? ⟨b, o + 2, none⟩ = some (.int .i64 l[0].tick)) := fun wx t => by
    obtain ⟨b, o, rfl, -, -, q2, -⟩ := (H.out.below t).at hl0
    exact ⟨b, o, rfl, by simpa using q2⟩
  generalize canS (stateH l) e = CA at *
  rw [hbg] at HCF
  generalize l[0].tick = T0 at *
  obtain ⟨id, kind, tick, ref, step, tryN, undo, data⟩ := e
  simp only at hkk hst
  obtain ⟨w1, hw1⟩ : ∃ w1, w.alloc (.cells #[.int .i64 id, .int .i64 kind, .int .i64 tick, .int .i64 ref, .int .i64 step, .int .i64 tryN, .bool undo, .string data] 39) = w1 := ⟨_, rfl⟩
  have hb1 : Below w.heap.size w w1 := by rw [← hw1]; exact (Below.refl _ w).alloc (Nat.le_refl _) _
  have hn1 : w1.heap[w.heap.size]? = some (.cells #[.int .i64 id, .int .i64 kind, .int .i64 tick, .int .i64 ref, .int .i64 step, .int .i64 tryN, .bool undo, .string data] 39 (0, 0)) := by rw [← hw1]; exact heap_alloc_new _ _
  have HB1 : Hid (Below w.heap.size w w1 ∧ w1.heap[w.heap.size]? = some (.cells #[.int .i64 id, .int .i64 kind, .int .i64 tick, .int .i64 ref, .int .i64 step, .int .i64 tryN, .bool undo, .string data] 39 (0, 0))) := ⟨hb1, hn1⟩
  unfold EvS.val' at HTR HFI ⊢
  clear h hb1 hn1 hok hev hbg HBG
  generalize statusH l = ST at *
  generalize askedH l = AS at *
  generalize takenH l = TA at *
  generalize freshH l = FR at *
  have hlen : l.length ≤ 500 := ho.len
  clear ho hl
  go_enter Try.func22, Try.ntmps22
  go_wp2_with fail
  refine (HPC.out _ HB1.out.1).mono ?_
  rintro x w2 ⟨pa, pc, rfl, r2, b2⟩
  obtain ⟨w3, hw3⟩ : ∃ w3, w2.alloc (.cells #[.slice pa (progH l).steps.length pc, .int .i64 (progH l).limit] 26) = w3 := ⟨_, rfl⟩
  have hb3 : Below w2.heap.size w2 w3 := by rw [← hw3]; exact (Below.refl _ _).alloc (Nat.le_refl _) _
  have hn3 : w3.heap[w2.heap.size]? = some (.cells #[.slice pa (progH l).steps.length pc, .int .i64 (progH l).limit] 26 (0, 0)) := by rw [← hw3]; exact heap_alloc_new _ _
  have HB3 : Hid (Below w.heap.size w w3 ∧ w3.heap[w.heap.size]? = some (.cells #[.int .i64 id, .int .i64 kind, .int .i64 tick, .int .i64 ref, .int .i64 step, .int .i64 tryN, .bool undo, .string data] 39 (0, 0)) ∧ w3.heap[w2.heap.size]? = some (.cells #[.slice pa (progH l).steps.length pc, .int .i64 (progH l).limit] 26 (0, 0)) ∧ ReadG w3 (.slice pa (progH l).steps.length pc) (progH l).steps) := by
    have h1 := (b2.block _ (block_lt HB1.out.2)).trans HB1.out.2
    have h2 := HB1.out.1.trans (b2.mono HB1.out.1.size)
    exact ⟨h2.trans (hb3.mono h2.size), (hb3.block _ (block_lt h1)).trans h1, hn3, r2.below hb3⟩
  clear b2 r2 hb3 hn3 hw1
  unfold ProgS.val'
  go_upto_region 2 with (fail)
  have c1 := (block_cell HB3.out.2.1 1).trans rfl
  have c2 := (block_cell HB3.out.2.1 2).trans rfl
  have c3 := (block_cell HB3.out.2.1 3).trans rfl
  have c4 := (block_cell HB3.out.2.1 4).trans rfl
  have c6 := (block_cell HB3.out.2.1 6).trans rfl
  have d0 := (block_cell HB3.out.2.2.1 0).trans rfl
  have d1 := (block_cell HB3.out.2.2.1 1).trans rfl
  generalize w2.heap.size = pb at *
  clear hw3
  generalize jobsH l = JL at *
  generalize clksH l = CL at *
  rcases hkk with rfl | rfl | rfl | rfl | rfl | rfl | rfl | rfl | rfl | rfl | rfl | rfl | rfl | rfl | rfl | rfl | rfl | rfl
  · have HR : Hid (CA = false) := HCF.out
    clear c2 c3 c4 c6 d0 d1
    go_wp2
    go_ret
    exact ⟨by rw [HR.out]; rfl, HB3.out.1⟩
  · have HR : Hid (CA = (decide ((AS : Int) = 0) && decide ((TA : Int) = 0) && FR)) := HCF.out
    clear c2 c3 c4 c6 d0 d1
    go_wp2_with fail
    refine (HAS.out _ HB3.out.1).mono ?_
    rintro x w4 ⟨rfl, rfl⟩
    by_cases hA : AS = 0
    · subst hA
      have gA : (((0 : Nat) : Int) == 0) = true := rfl
      go_wp2_with fail
      refine (HTA.out _ HB3.out.1).mono ?_
      rintro x w4 ⟨rfl, rfl⟩
      by_cases hT : TA = 0
      · subst hT
        go_wp2_with fail
        refine (HFR.out _ HB3.out.1).mono ?_
        rintro x w4 ⟨rfl, rfl⟩
        go_wp2
        go_ret
        exact ⟨by rw [HR.out]; rfl, HB3.out.1⟩
      · have HR2 : Hid (CA = false) := by show _ = _; rw [HR.out]; simp [hT]
        have gT : ((TA : Int) == 0) = false := by rw [beq_eq_false_iff_ne]; omega
        clear hT
        go_wp2
        go_ret
        exact ⟨by rw [HR2.out]; rfl, HB3.out.1⟩
    · have HR2 : Hid (CA = false) := by show _ = _; rw [HR.out]; simp [hA]
      have gA : ((AS : Int) == 0) = false := by rw [beq_eq_false_iff_ne]; omega
      clear hA
      go_wp2
      go_ret
      exact ⟨by rw [HR2.out]; rfl, HB3.out.1⟩
  · have HR : Hid (CA = decide ((AS : Int) = ref)) := HCF.out
    clear c2 c4 c6 d0 d1
    go_wp2
    go_quiet (first | (go_at_call 24; refine Calls.quiet_of_same (HASq.out _ (below_drewN HB3.out.1 _))))
    have HW := Lib.hid (below_drewN HB3.out.1 nq)
    go_wp2
    go_ret
    exact ⟨by rw [HR.out]; rfl, HW.out⟩
  · have HR : Hid (CA = decide ((TA : Int) = ref)) := HCF.out
    clear c2 c4 c6 d0 d1
    go_wp2
    go_quiet (first | (go_at_call 25; refine Calls.quiet_of_same (HTAq.out _ (below_drewN HB3.out.1 _))))
    have HW := Lib.hid (below_drewN HB3.out.1 nq)
    go_wp2
    go_ret
    exact ⟨by rw [HR.out]; rfl, HW.out⟩
  · have HR : Hid (CA = decide ((TA : Int) = ref)) := HCF.out
    clear c2 c4 c6 d0 d1
    go_wp2
    go_quiet (first | (go_at_call 25; refine Calls.quiet_of_same (HTAq.out _ (below_drewN HB3.out.1 _))))
    have HW := Lib.hid (below_drewN HB3.out.1 nq)
    go_wp2
    go_ret
    exact ⟨by rw [HR.out]; rfl, HW.out⟩
  · have HR : Hid (CA = (stepIs (progH l) step 1 && (!undo || decide ((stepAt (progH l) step).undo.size ≠ 0)))) := HCF.out
    have hs0 := hst rfl
    have HKC := Lib.hid (HKI.out w3 pa pc step 1 HB3.out.2.2.2 hs0)
    unfold ProgS.val' at HKC
    cases hsi : stepIs (progH l) step 1 with
    | false =>
      have HR2 : Hid (CA = false) := by show _ = _; rw [HR.out, hsi]; rfl
      rw [hsi] at HKC
      clear hsi hst
      generalize progH l = P at *
      go_wp2_with fail
      refine HKC.out.mono ?_
      rintro x w4 ⟨rfl, b4⟩
      have B4 := Lib.hid (HB3.out.1.trans (b4.mono HB3.out.1.size))
      clear b4 c2 c3 c4 c6 d0 d1
      go_wp2
      go_ret
      exact ⟨by rw [HR2.out]; rfl, B4.out⟩
    | true =>
      obtain ⟨n, rfl, hn, hkn, hsa⟩ := stepIs_iff hsi
      rw [hsi] at HKC
      have HST : Hid (∀ w', Below w3.heap.size w3 w' → ∃ b o, pa = some ⟨b, o, none⟩ ∧ w'.cell? ⟨b, o + n * 6 + 2, none⟩ = some (.string (stepAt (progH l) (n : Int)).undo)) := fun w' t => by
        obtain ⟨b, o, e, -, -, q2, -⟩ := (HB3.out.2.2.2.below t).at hn
        exact ⟨b, o, e, by rw [hsa]; exact q2⟩
      have HR2 : Hid (CA = (!undo || decide ((stepAt (progH l) (n : Int)).undo.size ≠ 0))) := by show _ = _; rw [HR.out, hsi]; rfl
      generalize stepAt (progH l) (n : Int) = y at *
      generalize progH l = P at *
      have hn1 : (n : Int) < (P.steps.length : Int) := by omega
      clear hsi hst hsa hkn HR
      go_wp2_with fail
      refine HKC.out.mono ?_
      rintro x w4 ⟨rfl, b4⟩
      have B4 := Lib.hid (HB3.out.1.trans (b4.mono HB3.out.1.size))
      obtain ⟨b, o, rfl, q2⟩ := HST.out _ b4
      have he4 := (b4.block _ (block_lt HB3.out.2.1)).trans HB3.out.2.1
      have hp4 := (b4.block _ (block_lt HB3.out.2.2.1)).trans HB3.out.2.2.1
      clear c1 c2 c3 c4 c6 d0 d1 b4
      have c4 := (block_cell he4 4).trans rfl
      have c6 := (block_cell he4 6).trans rfl
      have d0 := (block_cell hp4 0).trans rfl
      clear he4 hp4
      cases undo with
      | false =>
        have HR3 : Hid (CA = true) := HR2.out
        go_wp2
        go_ret
        exact ⟨by rw [HR3.out]; rfl, B4.out⟩
      | true =>
        by_cases hu : y.undo.size = 0
        · have HR3 : Hid (CA = false) := by show _ = _; rw [HR2.out]; simp [hu]
          have gu : (y.undo.toList == []) = true := by rw [beq_iff_eq]; exact (empty_iff _).2 hu
          clear hu
          go_wp2
          go_ret
          exact ⟨by rw [HR3.out]; rfl, B4.out⟩
        · have HR3 : Hid (CA = true) := by show _ = _; rw [HR2.out]; simp [hu]
          have gu : (y.undo.toList == []) = false := by rw [beq_eq_false_iff_ne]; exact fun e => hu ((empty_iff _).1 e)
          clear hu
          go_wp2
          go_ret
          exact ⟨by rw [HR3.out]; rfl, B4.out⟩
  · have HR : Hid (CA = triedS (progH l) JL ⟨id, 7, tick, ref, step, tryN, undo, data⟩) := HCF.out
    have c0 := (block_cell HB3.out.2.1 0).trans rfl
    have c5 := (block_cell HB3.out.2.1 5).trans rfl
    have c7 := (block_cell HB3.out.2.1 7).trans rfl
    clear d0 d1
    go_wp2_with fail
    refine (HTR.out _ HB3.out.1 (by simp)).mono ?_
    rintro x w4 ⟨rfl, b4⟩
    have B4 := Lib.hid (HB3.out.1.trans (b4.mono HB3.out.1.size))
    clear b4 c0 c1 c2 c3 c4 c5 c6 c7
    generalize triedS _ _ _ = TT at *
    go_wp2
    go_ret
    exact ⟨by rw [HR.out]; rfl, B4.out⟩
  · have HR : Hid (CA = triedS (progH l) JL ⟨id, 8, tick, ref, step, tryN, undo, data⟩) := HCF.out
    have c0 := (block_cell HB3.out.2.1 0).trans rfl
    have c5 := (block_cell HB3.out.2.1 5).trans rfl
    have c7 := (block_cell HB3.out.2.1 7).trans rfl
    clear d0 d1
    go_wp2_with fail
    refine (HTR.out _ HB3.out.1 (by simp)).mono ?_
    rintro x w4 ⟨rfl, b4⟩
    have B4 := Lib.hid (HB3.out.1.trans (b4.mono HB3.out.1.size))
    clear b4 c0 c1 c2 c3 c4 c5 c6 c7
    generalize triedS _ _ _ = TT at *
    go_wp2
    go_ret
    exact ⟨by rw [HR.out]; rfl, B4.out⟩
  · have HR : Hid (CA = triedS (progH l) JL ⟨id, 9, tick, ref, step, tryN, undo, data⟩) := HCF.out
    have c0 := (block_cell HB3.out.2.1 0).trans rfl
    have c5 := (block_cell HB3.out.2.1 5).trans rfl
    have c7 := (block_cell HB3.out.2.1 7).trans rfl
    clear d0 d1
    go_wp2_with fail
    refine (HTR.out _ HB3.out.1 (by simp)).mono ?_
    rintro x w4 ⟨rfl, b4⟩
    have B4 := Lib.hid (HB3.out.1.trans (b4.mono HB3.out.1.size))
    clear b4 c0 c1 c2 c3 c4 c5 c6 c7
    generalize triedS _ _ _ = TT at *
    go_wp2
    go_ret
    exact ⟨by rw [HR.out]; rfl, B4.out⟩
  · have HR : Hid (CA = stepIs (progH l) step 2) := HCF.out
    have hs0 := hst rfl
    have HKC := Lib.hid (HKI.out w3 pa pc step 2 HB3.out.2.2.2 hs0)
    unfold ProgS.val' at HKC
    generalize stepIs (progH l) step 2 = SI at *
    generalize progH l = P at *
    clear hst
    go_wp2_with fail
    refine HKC.out.mono ?_
    rintro x w4 ⟨rfl, b4⟩
    have B4 := Lib.hid (HB3.out.1.trans (b4.mono HB3.out.1.size))
    clear b4 c2 c3 c4 c6 d0 d1
    go_wp2
    go_ret
    exact ⟨by rw [HR.out]; rfl, B4.out⟩
  · have HR : Hid (CA = firedS CL ⟨id, 11, tick, ref, step, tryN, undo, data⟩) := HCF.out
    have c0 := (block_cell HB3.out.2.1 0).trans rfl
    have c5 := (block_cell HB3.out.2.1 5).trans rfl
    have c7 := (block_cell HB3.out.2.1 7).trans rfl
    clear d0 d1
    go_wp2_with fail
    refine (HFI.out _ HB3.out.1).mono ?_
    rintro x w4 ⟨rfl, b4⟩
    have B4 := Lib.hid (HB3.out.1.trans (b4.mono HB3.out.1.size))
    clear b4 c0 c1 c2 c3 c4 c5 c6 c7
    generalize firedS _ _ = TT at *
    go_wp2
    go_ret
    exact ⟨by rw [HR.out]; rfl, B4.out⟩
  · have HR : Hid (CA = true) := HCF.out
    clear c2 c3 c4 c6 d0 d1
    go_wp2
    go_ret
    exact ⟨by rw [HR.out]; rfl, HB3.out.1⟩
  · have HR : Hid (CA = !decide (0 < lastH l 13)) := HCF.out
    clear c2 c3 c4 c6 d0 d1
    go_wp2_with fail
    refine (HLA.out _ 13 HB3.out.1).mono ?_
    rintro x w4 ⟨rfl, rfl⟩
    have hz : ((lastH l 13 : Int) == 0) = !decide (0 < lastH l 13) := by rcases Nat.eq_zero_or_pos (lastH l 13) with h | h <;> simp [h] <;> omega
    rw [← hz] at HR
    clear hz
    go_wp2
    go_ret
    exact ⟨by rw [HR.out]; rfl, HB3.out.1⟩
  · have HR : Hid (CA = (!decide (0 < lastH l 14) && decide ((progH l).limit ≠ 0) && decide (T0 + (progH l).limit ≤ tick))) := HCF.out
    have HLC := Lib.hid (fun nq => HLAq.out (w3.drewN nq) 14 (below_drewN HB3.out.1 nq))
    obtain ⟨b, o, rfl, q2⟩ := HE0.out w3 HB3.out.1
    generalize lastH l 14 = N14 at *
    generalize progH l = P at *
    have ht1 : IntKind.i64.wrap (T0 + P.limit) = T0 + P.limit := IntWalk.i64_in _ ⟨by omega, by omega⟩
    have hl1 : (0 : Int) < (l.length : Int) := by omega
    clear c3 c4 c6 d0
    by_cases hN : N14 = 0
    · subst hN
      by_cases hL : P.limit = 0
      · have HR2 : Hid (CA = false) := by show _ = _; rw [HR.out]; simp [hL]
        have gL : (P.limit != 0) = false := by simp [hL]
        clear hL
        go_wp2
        go_quiet (first | (go_at_call 29; refine Calls.quiet_of_same (HLC.out _)))
        have HW := Lib.hid (below_drewN HB3.out.1 nq)
        go_wp2
        go_ret
        exact ⟨by rw [HR2.out]; rfl, HW.out⟩
      · have HR2 : Hid (CA = decide (T0 + P.limit ≤ tick)) := by show _ = _; rw [HR.out]; simp [hL]
        have gL : (P.limit != 0) = true := by simp [hL]
        clear hL
        go_wp2
        go_quiet (first | (go_at_call 29; refine Calls.quiet_of_same (HLC.out _)))
        have HW := Lib.hid (below_drewN HB3.out.1 nq)
        go_wp2
        go_ret
        exact ⟨by rw [HR2.out]; rfl, HW.out⟩
    · have HR2 : Hid (CA = false) := by
        have hp : 0 < N14 := by omega
        show _ = _
        rw [HR.out]
        simp [hp]
      have gN : ((N14 : Int) == 0) = false := by rw [beq_eq_false_iff_ne]; omega
      clear hN
      go_wp2
      go_quiet (first | (go_at_call 29; refine Calls.quiet_of_same (HLC.out _)))
      have HW := Lib.hid (below_drewN HB3.out.1 nq)
      go_wp2
      go_ret
      exact ⟨by rw [HR2.out]; rfl, HW.out⟩
  · have HR : Hid (CA = (decide ((AS : Int) = 0) && decide ((TA : Int) = 0) && decide (JL = []))) := HCF.out
    clear c2 c3 c4 c6 d0 d1
    go_wp2_with fail
    refine (HAS.out _ HB3.out.1).mono ?_
    rintro x w4 ⟨rfl, rfl⟩
    by_cases hA : AS = 0
    · subst hA
      have gA : (((0 : Nat) : Int) == 0) = true := rfl
      go_wp2_with fail
      refine (HTA.out _ HB3.out.1).mono ?_
      rintro x w4 ⟨rfl, rfl⟩
      by_cases hT : TA = 0
      · subst hT
        go_wp2_with fail
        refine (HJO.out _ HB3.out.1).mono ?_
        rintro x w4 ⟨jv, rfl, o4, b4⟩
        obtain ⟨ja, jc, rfl⟩ := o4.1.slice
        have B4 := Lib.hid (HB3.out.1.trans (b4.mono HB3.out.1.size))
        have hz : ((JL.length : Int) == 0) = decide (JL = []) := by cases JL with | nil => rfl | cons x r => simp; omega
        have HR2 : Hid (CA = ((JL.length : Int) == 0)) := by show _ = _; rw [HR.out, hz]; rfl
        clear b4 o4 c1 hz
        go_wp2
        go_ret
        exact ⟨by rw [HR2.out]; rfl, B4.out⟩
      · have HR2 : Hid (CA = false) := by show _ = _; rw [HR.out]; simp [hT]
        have gT : ((TA : Int) == 0) = false := by rw [beq_eq_false_iff_ne]; omega
        clear hT
        go_wp2
        go_ret
        exact ⟨by rw [HR2.out]; rfl, HB3.out.1⟩
    · have HR2 : Hid (CA = false) := by show _ = _; rw [HR.out]; simp [hA]
      have gA : ((AS : Int) == 0) = false := by rw [beq_eq_false_iff_ne]; omega
      clear hA
      go_wp2
      go_ret
      exact ⟨by rw [HR2.out]; rfl, HB3.out.1⟩
  · have HR : Hid (CA = (decide ((AS : Int) = 0) && decide ((TA : Int) = 0) && decide (JL = []))) := HCF.out
    clear c2 c3 c4 c6 d0 d1
    go_wp2_with fail
    refine (HAS.out _ HB3.out.1).mono ?_
    rintro x w4 ⟨rfl, rfl⟩
    by_cases hA : AS = 0
    · subst hA
      have gA : (((0 : Nat) : Int) == 0) = true := rfl
      go_wp2_with fail
      refine (HTA.out _ HB3.out.1).mono ?_
      rintro x w4 ⟨rfl, rfl⟩
      by_cases hT : TA = 0
      · subst hT
        go_wp2_with fail
        refine (HJO.out _ HB3.out.1).mono ?_
        rintro x w4 ⟨jv, rfl, o4, b4⟩
        obtain ⟨ja, jc, rfl⟩ := o4.1.slice
        have B4 := Lib.hid (HB3.out.1.trans (b4.mono HB3.out.1.size))
        have hz : ((JL.length : Int) == 0) = decide (JL = []) := by cases JL with | nil => rfl | cons x r => simp; omega
        have HR2 : Hid (CA = ((JL.length : Int) == 0)) := by show _ = _; rw [HR.out, hz]; rfl
        clear b4 o4 c1 hz
        go_wp2
        go_ret
        exact ⟨by rw [HR2.out]; rfl, B4.out⟩
      · have HR2 : Hid (CA = false) := by show _ = _; rw [HR.out]; simp [hT]
        have gT : ((TA : Int) == 0) = false := by rw [beq_eq_false_iff_ne]; omega
        clear hT
        go_wp2
        go_ret
        exact ⟨by rw [HR2.out]; rfl, HB3.out.1⟩
    · have HR2 : Hid (CA = false) := by show _ = _; rw [HR.out]; simp [hA]
      have gA : ((AS : Int) == 0) = false := by rw [beq_eq_false_iff_ne]; omega
      clear hA
      go_wp2
      go_ret
      exact ⟨by rw [HR2.out]; rfl, HB3.out.1⟩
  · have HR : Hid (CA = (decide ((AS : Int) = 0) && decide ((TA : Int) = 0) && decide (JL = []))) := HCF.out
    clear c2 c3 c4 c6 d0 d1
    go_wp2_with fail
    refine (HAS.out _ HB3.out.1).mono ?_
    rintro x w4 ⟨rfl, rfl⟩
    by_cases hA : AS = 0
    · subst hA
      have gA : (((0 : Nat) : Int) == 0) = true := rfl
      go_wp2_with fail
      refine (HTA.out _ HB3.out.1).mono ?_
      rintro x w4 ⟨rfl, rfl⟩
      by_cases hT : TA = 0
      · subst hT
        go_wp2_with fail
        refine (HJO.out _ HB3.out.1).mono ?_
        rintro x w4 ⟨jv, rfl, o4, b4⟩
        obtain ⟨ja, jc, rfl⟩ := o4.1.slice
        have B4 := Lib.hid (HB3.out.1.trans (b4.mono HB3.out.1.size))
        have hz : ((JL.length : Int) == 0) = decide (JL = []) := by cases JL with | nil => rfl | cons x r => simp; omega
        have HR2 : Hid (CA = ((JL.length : Int) == 0)) := by show _ = _; rw [HR.out, hz]; rfl
        clear b4 o4 c1 hz
        go_wp2
        go_ret
        exact ⟨by rw [HR2.out]; rfl, B4.out⟩
      · have HR2 : Hid (CA = false) := by show _ = _; rw [HR.out]; simp [hT]
        have gT : ((TA : Int) == 0) = false := by rw [beq_eq_false_iff_ne]; omega
        clear hT
        go_wp2
        go_ret
        exact ⟨by rw [HR2.out]; rfl, HB3.out.1⟩
    · have HR2 : Hid (CA = false) := by show _ = _; rw [HR.out]; simp [hA]
      have gA : ((AS : Int) == 0) = false := by rw [beq_eq_false_iff_ne]; omega
      clear hA
      go_wp2
      go_ret
      exact ⟨by rw [HR2.out]; rfl, HB3.out.1⟩
  · have HR : Hid (CA = true) := HCF.out
    clear c2 c3 c4 c6 d0 d1
    go_wp2
    go_ret
    exact ⟨by rw [HR.out]; rfl, HB3.out.1⟩
end Go.Proofs.Ytlkfpeefjpmmfaa

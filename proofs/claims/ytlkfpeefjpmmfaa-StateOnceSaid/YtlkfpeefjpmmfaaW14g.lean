/- Layer 14: the contract of the program's check. -/
import Derived.Test.YtlkfpeefjpmmfaaW14f
namespace Go.Proofs.Ytlkfpeefjpmmfaa
open Go.RowKit
set_option linter.unusedVariables false

set_option maxHeartbeats 8000000 in
set_option maxRecDepth 100000 in
theorem check14_any {w : World} {g j k : Value} (S : StS) (h : ReadSt w g j k S) (hgd : GoodS S) (e : EvS) (hd : e.data.size ≤ 140737488351232) :
    Calls Try.prog 16 #[S.val' g j k, e.val'] w fun x w' => x = .returned (.int .i64 (errS S e : Nat)) ∧ Below w.heap.size w w' := by
  obtain ⟨ga, gc, rfl⟩ := h.g.slice
  obtain ⟨ja, jc, rfl⟩ := h.j.slice
  obtain ⟨ka, kc, rfl⟩ := h.c.slice
  obtain ⟨w1, hw1, b1, X1, hs1⟩ := stBoxed w (.slice ga S.prog.steps.length gc) (.slice ja S.jobs.length jc) (.slice ka S.clocks.length kc) S
  obtain ⟨w2, hw2, b2, E2, hs2⟩ := evBoxed w1 e
  have B2 := Lib.hid (b1.trans (b2.mono b1.size))
  have X2 := Lib.hid (X1.later b2)
  have HE2 := Lib.hid E2
  have HR := Lib.hid h
  have HCK := Lib.hid (check13_any e hd w2)
  have HCC : Hid (evB e = true → ∀ wx, Below w.heap.size w wx → Calls Try.prog 31 #[S.val' (.slice ga S.prog.steps.length gc) (.slice ja S.jobs.length jc) (.slice ka S.clocks.length kc), e.val'] wx fun x w' => x = .returned (.bool (canS S e)) ∧ Below wx.heap.size wx w') := fun hv wx t => canCome_any S (HR.out.below t) hgd e hv
  obtain ⟨V, hV⟩ : ∃ V, V = errS S e := ⟨_, rfl⟩
  have HV0 := Lib.hid hV
  rw [← hV]
  obtain ⟨d0, d1, d2, d3, d4, d5, d6, d7⟩ := E2.c
  clear h hd hs1 hs2 X1 b1 b2 E2 hV
  cases hev : evB e with
  | false =>
    have HV : Hid (V = 120) := by show _ = _; rw [HV0.out]; unfold errS; rw [if_pos hev]
    have he : encEE e = 120 := if_neg (by rw [hev]; decide)
    rw [he] at HCK
    unfold StS.val' EvS.val' at *
    clear hev he
    go_enter Try.func16, Try.ntmps16
    go_wp2_with fail
    refine HCK.out.mono ?_
    rintro x w3 ⟨rfl, b3⟩
    have B3 := Lib.hid (B2.out.trans (b3.mono B2.out.size))
    clear b3
    go_wp2
    go_ret
    exact ⟨by rw [HV.out]; rfl, B3.out⟩
  | true =>
    have hkd := ((evB_iff _).1 hev).kind
    have he : encEE e = 0 := if_pos hev
    rw [he] at HCK
    have HCN := Lib.hid (HCC.out hev)
    have HV1 : Hid (V = if S.next = 0 then (if e.kind = 1 ∧ e.id = 1 then 0 else 120) else if S.status ≠ 0 then 182 else if e.id = S.next ∧ canS S e = true then 0 else 120) := by show _ = _; rw [HV0.out]; unfold errS; rw [if_neg (by rw [hev]; decide)]
    generalize canS S e = C at *
    unfold StS.val' EvS.val' at *
    clear hev he HV0 HCC
    go_enter Try.func16, Try.ntmps16
    go_wp2_with fail
    refine HCK.out.mono ?_
    rintro x w3 ⟨rfl, b3⟩
    have B3 := Lib.hid (B2.out.trans (b3.mono B2.out.size))
    have X3 := Lib.hid (X2.out.later b3)
    have HE3 := Lib.hid (HE2.out.later b3)
    clear b3 d0 d1 d2 d3 d4 d5 d6 d7
    obtain ⟨d0, d1, d2, d3, d4, d5, d6, d7⟩ := HE3.out.c
    have s0 := (block_cell X3.out.cells 0).trans rfl
    have s1 := (block_cell X3.out.cells 1).trans rfl
    have s2 := (block_cell X3.out.cells 2).trans rfl
    have s3 := (block_cell X3.out.cells 3).trans rfl
    have s4 := (block_cell X3.out.cells 4).trans rfl
    have s5 := (block_cell X3.out.cells 5).trans rfl
    have s6 := (block_cell X3.out.cells 6).trans rfl
    have s7 := (block_cell X3.out.cells 7).trans rfl
    have s8 := (block_cell X3.out.cells 8).trans rfl
    have s9 := (block_cell X3.out.cells 9).trans rfl
    have s10 := (block_cell X3.out.cells 10).trans rfl
    have s11 := (block_cell X3.out.cells 11).trans rfl
    by_cases hn : S.next = 0
    · have g1 : (S.next == 0) = true := by simp [hn]
      by_cases hk : e.kind = 1
      · have g2 : (e.kind != 1) = false := by simp [hk]
        by_cases hi : e.id = 1
        · have g3 : (e.id != 1) = false := by simp [hi]
          have HV : Hid (V = 0) := by show _ = _; rw [HV1.out, if_pos hn, if_pos ⟨hk, hi⟩]
          clear hn hk hi
          go_wp2
          go_ret
          exact ⟨by rw [HV.out]; rfl, B3.out⟩
        · have g3 : (e.id != 1) = true := by simp [hi]
          have HV : Hid (V = 120) := by show _ = _; rw [HV1.out, if_pos hn, if_neg (fun h => hi h.2)]
          clear hn hk hi
          go_wp2
          go_ret
          exact ⟨by rw [HV.out]; rfl, B3.out⟩
      · have g2 : (e.kind != 1) = true := by simp [hk]
        have HV : Hid (V = 120) := by show _ = _; rw [HV1.out, if_pos hn, if_neg (fun h => hk h.1)]
        clear hn hk
        go_wp2
        go_ret
        exact ⟨by rw [HV.out]; rfl, B3.out⟩
    · have g1 : (S.next == 0) = false := by simp [hn]
      by_cases hs : S.status = 0
      · have g2 : (S.status != 0) = false := by simp [hs]
        by_cases hi : e.id = S.next
        · have g3 : (e.id != S.next) = false := by simp [hi]
          have HV : Hid (V = if C = true then 0 else 120) := by
            show _ = _
            rw [HV1.out, if_neg hn, if_neg (fun h => h hs)]
            cases C <;> simp [hi]
          have HC2 := Lib.hid (HCN.out _ B3.out)
          clear hn hs hi
          cases C with
          | true =>
            go_wp2_with fail
            refine HC2.out.mono ?_
            rintro x w4 ⟨rfl, b4⟩
            have B4 := Lib.hid (B3.out.trans (b4.mono B3.out.size))
            clear b4
            go_wp2
            go_ret
            exact ⟨by rw [HV.out]; rfl, B4.out⟩
          | false =>
            go_wp2_with fail
            refine HC2.out.mono ?_
            rintro x w4 ⟨rfl, b4⟩
            have B4 := Lib.hid (B3.out.trans (b4.mono B3.out.size))
            clear b4
            go_wp2
            go_ret
            exact ⟨by rw [HV.out]; rfl, B4.out⟩
        · have g3 : (e.id != S.next) = true := by simp [hi]
          have HV : Hid (V = 120) := by show _ = _; rw [HV1.out, if_neg hn, if_neg (fun h => h hs), if_neg (fun h => hi h.1)]
          clear hn hs hi
          go_wp2
          go_ret
          exact ⟨by rw [HV.out]; rfl, B3.out⟩
      · have g2 : (S.status != 0) = true := by simp [hs]
        have HV : Hid (V = 182) := by show _ = _; rw [HV1.out, if_neg hn, if_pos hs]
        clear hn hs
        go_wp2
        go_ret
        exact ⟨by rw [HV.out]; rfl, B3.out⟩
end Go.Proofs.Ytlkfpeefjpmmfaa

/- Joined: R14i R14j. -/
import Derived.Test.YtlkfpeefjpmmfaaR14h
import Derived.Test.YtlkfpeefjpmmfaaJ21

namespace Go.Proofs.Ytlkfpeefjpmmfaa
open Go.RowKit
set_option linter.unusedVariables false

set_option maxHeartbeats 1000000 in
set_option maxRecDepth 100000 in
theorem rcomes_any {w : World} {v : Value} {l : List EvS} (h : ReadE w v l) (ho : OkH l) (e : EvS) (hd : e.data.size ≤ 140737488351232) :
    Calls Try.prog 13 #[v, e.val'] w fun x w' => x = .returned (.int .i64 (errS (stateH l) e : Nat)) ∧ Below w.heap.size w w' := by
  have HSA : Hid (∀ wx, Below w.heap.size w wx → Calls Try.prog 21 #[v] wx fun x w' => x = .returned (.int .i64 (statusH l : Nat)) ∧ wx = w') := fun wx t => (rstatus_any (h.below t)).mono fun e w' h => ⟨h.1, h.2.symm⟩
  have HCA : Hid (∀ wx, l ≠ [] → evB e = true → Below w.heap.size w wx → Calls Try.prog 22 #[v, e.val'] wx fun x w' => x = .returned (.bool (canS (stateH l) e)) ∧ Below wx.heap.size wx w') := fun wx hl hev t => rcan_any (h.below t) ho hl e hev
  have HRI := Lib.hid (fun wx => rright13_any e hd wx)
  have HER : Hid (errS (stateH l) e = if evB e = false then 120 else if (stateH l).next = 0 then (if e.kind = 1 ∧ e.id = 1 then 0 else 120) else if (stateH l).status ≠ 0 then 182 else if e.id = (stateH l).next ∧ canS (stateH l) e = true then 0 else 120) := rfl
  have HNX := Lib.hid (state_next l)
  have HSC : Hid (l ≠ [] → (stateH l).status = (statusH l : Int) ∧ (stateH l).next = ((l.length + 1 : Nat) : Int)) := fun hl => by rw [state_cons hl]; exact ⟨rfl, rfl⟩
  have hlen := ho.len
  obtain ⟨va, vc, rfl⟩ := h.slice
  generalize errS (stateH l) e = ER at *
  generalize canS (stateH l) e = CA at *
  generalize stateH l = SS at *
  generalize hev : evB e = EB at *
  obtain ⟨id, kind, tick, ref, step, tryN, undo, data⟩ := e
  obtain ⟨w1, hw1⟩ : ∃ w1, w.alloc (.cells #[.int .i64 id, .int .i64 kind, .int .i64 tick, .int .i64 ref, .int .i64 step, .int .i64 tryN, .bool undo, .string data] 39) = w1 := ⟨_, rfl⟩
  have hb1 : Below w.heap.size w w1 := by rw [← hw1]; exact (Below.refl _ w).alloc (Nat.le_refl _) _
  have hn1 : w1.heap[w.heap.size]? = some (.cells #[.int .i64 id, .int .i64 kind, .int .i64 tick, .int .i64 ref, .int .i64 step, .int .i64 tryN, .bool undo, .string data] 39 (0, 0)) := by rw [← hw1]; exact heap_alloc_new _ _
  have HB1 := Lib.hid hb1
  have HN1 := Lib.hid hn1
  have c0 := (block_cell hn1 0).trans rfl
  have c1 := (block_cell hn1 1).trans rfl
  have c2 := (block_cell hn1 2).trans rfl
  have c3 := (block_cell hn1 3).trans rfl
  have c4 := (block_cell hn1 4).trans rfl
  have c5 := (block_cell hn1 5).trans rfl
  have c6 := (block_cell hn1 6).trans rfl
  have c7 := (block_cell hn1 7).trans rfl
  unfold EvS.val' at HCA HRI ⊢
  simp only at HER hd
  clear h hb1 hn1 ho
  go_enter Try.func13, Try.ntmps13
  go_wp2_with fail
  refine (HRI.out _).mono ?_
  rintro x w2 ⟨rfl, b2⟩
  have hn2 := (b2.block _ (block_lt HN1.out)).trans HN1.out
  have HN2 := Lib.hid hn2
  have B2 := Lib.hid (HB1.out.trans (b2.mono HB1.out.size))
  clear c0 c1 c2 c3 c4 c5 c6 c7 b2 hw1 HN1 HB1
  cases EB with
  | false =>
    have HR : Hid (ER = 120) := HER.out
    go_wp2
    go_ret
    exact ⟨by rw [HR.out]; rfl, B2.out⟩
  | true =>
    have c0 := (block_cell hn2 0).trans rfl
    have c1 := (block_cell hn2 1).trans rfl
    have c2 := (block_cell hn2 2).trans rfl
    have c3 := (block_cell hn2 3).trans rfl
    have c4 := (block_cell hn2 4).trans rfl
    have c5 := (block_cell hn2 5).trans rfl
    have c6 := (block_cell hn2 6).trans rfl
    have c7 := (block_cell hn2 7).trans rfl
    clear hn2
    by_cases hl : l = []
    · subst hl
      have hnx : SS.next = 0 := HNX.out.2 rfl
      by_cases hk : kind = 1
      · have gk : (kind != 1) = false := by simp [hk]
        by_cases hi : id = 1
        · have HR : Hid (ER = 0) := by show _ = _; rw [HER.out, if_neg (by decide), if_pos hnx, if_pos ⟨hk, hi⟩]
          have gi : (id != 1) = false := by simp [hi]
          clear hk hi hnx
          go_wp2
          go_ret
          exact ⟨by rw [HR.out]; rfl, B2.out⟩
        · have HR : Hid (ER = 120) := by show _ = _; rw [HER.out, if_neg (by decide), if_pos hnx, if_neg (fun h => hi h.2)]
          have gi : (id != 1) = true := by simp [hi]
          clear hk hi hnx
          go_wp2
          go_ret
          exact ⟨by rw [HR.out]; rfl, B2.out⟩
      · have HR : Hid (ER = 120) := by show _ = _; rw [HER.out, if_neg (by decide), if_pos hnx, if_neg (fun h => hk h.1)]
        have gk : (kind != 1) = true := by simp [hk]
        clear hk hnx
        go_wp2
        go_ret
        exact ⟨by rw [HR.out]; rfl, B2.out⟩
    · have hp : 0 < l.length := List.length_pos_iff.2 hl
      have gl : ((l.length : Int) == 0) = false := by rw [beq_eq_false_iff_ne]; omega
      obtain ⟨hs, hn⟩ := HSC.out hl
      have hnx : ¬ SS.next = 0 := by omega
      have HCL := Lib.hid (HCA.out w2 hl rfl B2.out)
      have hio : IntKind.i64.wrap ((l.length : Int) + 1) = ((l.length + 1 : Nat) : Int) := by rw [IntWalk.i64_in _ ⟨by omega, by omega⟩]; omega
      have HST : Hid (statusH l ≠ 0 → ER = 182) := fun h => by rw [HER.out, if_neg (by decide), if_neg hnx, if_pos (by omega)]
      have HS0 : Hid (statusH l = 0 → ER = if id = ((l.length + 1 : Nat) : Int) ∧ CA = true then 0 else 120) := fun h => by rw [HER.out, if_neg (by decide), if_neg hnx, if_neg (by omega), hn]
      clear hs hn hnx hl
      generalize statusH l = ST at *
      go_wp2_with fail
      refine (HSA.out _ B2.out).mono ?_
      rintro x w3 ⟨rfl, rfl⟩
      by_cases h0 : ST = 0
      · subst h0
        by_cases hi : id = ((l.length + 1 : Nat) : Int)
        · obtain ⟨N, hN⟩ : ∃ N : Int, ((l.length + 1 : Nat) : Int) = N := ⟨_, rfl⟩
          rw [hN] at hi hio HS0
          subst hi
          have gi : (id != id) = false := by simp
          cases CA with
          | false =>
            have HR : Hid (ER = 120) := by show _ = _; rw [HS0.out rfl, if_neg (by simp)]
            clear hN
            go_wp2_with fail
            refine HCL.out.mono ?_
            rintro x w4 ⟨rfl, b4⟩
            have B4 := Lib.hid (B2.out.trans (b4.mono B2.out.size))
            clear b4 c0 c1 c2 c3 c4 c5 c6 c7
            go_wp2
            go_ret
            exact ⟨by rw [HR.out]; rfl, B4.out⟩
          | true =>
            have HR : Hid (ER = 0) := by show _ = _; rw [HS0.out rfl, if_pos ⟨rfl, rfl⟩]
            clear hN
            go_wp2_with fail
            refine HCL.out.mono ?_
            rintro x w4 ⟨rfl, b4⟩
            have B4 := Lib.hid (B2.out.trans (b4.mono B2.out.size))
            clear b4 c0 c1 c2 c3 c4 c5 c6 c7
            go_wp2
            go_ret
            exact ⟨by rw [HR.out]; rfl, B4.out⟩
        · have HR : Hid (ER = 120) := by show _ = _; rw [HS0.out rfl, if_neg (fun h => hi h.1)]
          obtain ⟨N, hN⟩ : ∃ N : Int, ((l.length + 1 : Nat) : Int) = N := ⟨_, rfl⟩
          rw [hN] at hi hio
          have gi : (id != N) = true := by simpa using hi
          clear hi hN
          go_wp2
          go_ret
          exact ⟨by rw [HR.out]; rfl, B2.out⟩
      · have HR := Lib.hid (HST.out h0)
        have g0 : ((ST : Int) != 0) = true := by rw [bne_iff_ne]; omega
        clear h0
        go_wp2
        go_ret
        exact ⟨by rw [HR.out]; rfl, B2.out⟩
end Go.Proofs.Ytlkfpeefjpmmfaa

namespace Go.Proofs.Ytlkfpeefjpmmfaa
open Go.RowKit
set_option linter.unusedVariables false

set_option maxHeartbeats 4000000 in
set_option maxRecDepth 100000 in
theorem rstate_any {w : World} {v : Value} {l : List EvS} (h : ReadE w v l) (ho : OkH l) :
    Calls Try.prog 14 #[v] w fun x w' => ∃ g j c, x = .returned ((stateH l).val' g j c) ∧ ReadSt w' g j c (stateH l) ∧ ((∀ k, j.ownBlock = some k → w.heap.size ≤ k) ∧ ∀ k, c.ownBlock = some k → w.heap.size ≤ k) ∧ Below w.heap.size w w' := by
  obtain ⟨w1, hw1⟩ : ∃ w1, w.alloc (.cells zeroSt 30) = w1 := ⟨_, rfl⟩
  have hb1 : Below w.heap.size w w1 := by rw [← hw1]; exact (Below.refl _ w).alloc (Nat.le_refl _) _
  have hn1 : w1.heap[w.heap.size]? = some (.cells zeroSt 30 (0, 0)) := by rw [← hw1]; exact heap_alloc_new _ _
  have hs1 : w1.heap.size = w.heap.size + 1 := by rw [← hw1]; simp
  unfold zeroSt at hw1
  obtain ⟨va, vc, rfl⟩ := h.slice
  have hml : l.length ≤ 500 := ho.len
  by_cases hl : l = []
  · subst hl
    have HSS : Hid (stateH [] = StS.zero) := rfl
    generalize stateH [] = SS at *
    have hn1' : w1.heap[w.heap.size]? = some (.cells #[.slice none 0 0, .int .i64 0, .int .i64 0, .int .i64 0, .int .i64 0, .int .i64 0, .int .i64 0, .bool false, .slice none 0 0, .slice none 0 0, .bool false, .bool false] 30 (0, 0)) := hn1
    have q0 := (block_cell hn1' 0).trans rfl
    have q1 := (block_cell hn1' 1).trans rfl
    have q2 := (block_cell hn1' 2).trans rfl
    have q3 := (block_cell hn1' 3).trans rfl
    have q4 := (block_cell hn1' 4).trans rfl
    have q5 := (block_cell hn1' 5).trans rfl
    have q6 := (block_cell hn1' 6).trans rfl
    have q7 := (block_cell hn1' 7).trans rfl
    have q8 := (block_cell hn1' 8).trans rfl
    have q9 := (block_cell hn1' 9).trans rfl
    have q10 := (block_cell hn1' 10).trans rfl
    have q11 := (block_cell hn1' 11).trans rfl
    have f0 := block_free hn1' 0
    have f1 := block_free hn1' 1
    have f2 := block_free hn1' 2
    have f3 := block_free hn1' 3
    have f4 := block_free hn1' 4
    have f5 := block_free hn1' 5
    have f6 := block_free hn1' 6
    have f7 := block_free hn1' 7
    have f8 := block_free hn1' 8
    have f9 := block_free hn1' 9
    have f10 := block_free hn1' 10
    have f11 := block_free hn1' 11
    have HB1 := Lib.hid hb1
    clear hn1 hn1' hb1 hs1 h ho
    go_enter Try.func14, Try.ntmps14
    go_wp2
    (try simp only [Exit.inBlock, Exit.then])
    refine bodyPost_ret (v := .agg #[.slice none 0 0, .int .i64 0, .int .i64 0, .int .i64 0, .int .i64 0, .int .i64 0, .int .i64 0, .bool false, .slice none 0 0, .slice none 0 0, .bool false, .bool false]) ?_ rfl ⟨.slice none 0 0, .slice none 0 0, .slice none 0 0, by rw [HSS.out]; rfl, by rw [HSS.out]; exact ReadSt.zero _, ⟨fun k hk => by simp [Value.ownBlock] at hk, fun k hk => by simp [Value.ownBlock] at hk⟩, (setSt w1 w.heap.size _ _ _ _ _ _ _ _ _ _ _ _).2 _ _ HB1.out (Nat.le_refl _)⟩
    rw [results_cell14 rfl]
    go_simp
  · have hp : 0 < l.length := List.length_pos_iff.2 hl
    have HPC : Hid (∀ wx, Below w.heap.size w wx → Calls Try.prog 23 #[.slice va l.length vc] wx fun e w' => ∃ a c, e = .returned ((progH l).val' a c) ∧ ReadG w' (.slice a (progH l).steps.length c) (progH l).steps ∧ Below wx.heap.size wx w') := fun wx t => rprogram_any (h.below t) ho hl
    have HSA : Hid (∀ wx, Below w.heap.size w wx → Calls Try.prog 21 #[.slice va l.length vc] wx fun x w' => x = .returned (.int .i64 (statusH l : Nat)) ∧ wx = w') := fun wx t => (rstatus_any (h.below t)).mono fun e w' h => ⟨h.1, h.2.symm⟩
    have HAS : Hid (∀ wx, Below w.heap.size w wx → Calls Try.prog 24 #[.slice va l.length vc] wx fun x w' => x = .returned (.int .i64 (askedH l : Nat)) ∧ wx = w') := fun wx t => (rasked_any (h.below t)).mono fun e w' h => ⟨h.1, h.2.symm⟩
    have HTA : Hid (∀ wx, Below w.heap.size w wx → Calls Try.prog 25 #[.slice va l.length vc] wx fun x w' => x = .returned (.int .i64 (takenH l : Nat)) ∧ wx = w') := fun wx t => (rtaken_any (h.below t)).mono fun e w' h => ⟨h.1, h.2.symm⟩
    have HFR : Hid (∀ wx, Below w.heap.size w wx → Calls Try.prog 26 #[.slice va l.length vc] wx fun x w' => x = .returned (.bool (freshH l)) ∧ wx = w') := fun wx t => (rfresh_any (h.below t)).mono fun e w' h => ⟨h.1, h.2.symm⟩
    have HLA : Hid (∀ wx (k : Int), Below w.heap.size w wx → Calls Try.prog 29 #[.slice va l.length vc, .int .i64 k] wx fun x w' => x = .returned (.int .i64 (lastH l k : Nat)) ∧ wx = w') := fun wx k t => (rlast_any (h.below t) k).mono fun e w' h => ⟨h.1, h.2.symm⟩
    have HJO : Hid (∀ wx, Below w.heap.size w wx → Calls Try.prog 27 #[.slice va l.length vc] wx fun e w' => ∃ v', e = .returned v' ∧ OwnR JobS.cells 4 wx.heap.size w' v' (jobsH l) ∧ Below wx.heap.size wx w') := fun wx t => rjobs_any (h.below t) (by omega)
    have HCO : Hid (∀ wx, Below w.heap.size w wx → Calls Try.prog 28 #[.slice va l.length vc] wx fun e w' => ∃ v', e = .returned v' ∧ OwnR ClkS.cells 3 wx.heap.size w' v' (clksH l) ∧ Below wx.heap.size wx w') := fun wx t => rclocks_any (h.below t) ho
    obtain ⟨b, o, rfl, -⟩ := h.at hp
    have HTK : Hid (∀ wx, Below w.heap.size w wx → wx.cell? ⟨b, o + 2, none⟩ = some (.int .i64 (beganH l))) := fun wx t => by
      obtain ⟨b2, o2, hb2, -, -, p2, -⟩ := (h.below t).at hp
      injection hb2 with hb2
      injection hb2 with e1 e2
      subst e1 e2
      obtain ⟨_, hbg⟩ := head_at hl
      rw [hbg]
      simpa using p2
    have HSS := Lib.hid (state_cons hl)
    generalize progH l = P at *
    generalize statusH l = ST at *
    generalize askedH l = AS at *
    generalize takenH l = TA at *
    generalize freshH l = FR at *
    generalize jobsH l = JL at *
    generalize clksH l = CL at *
    generalize beganH l = T0 at *
    generalize stateH l = SS at *
    have HB1 : Hid (Below w.heap.size w w1 ∧ w1.heap[w.heap.size]? = some (.cells zeroSt 30 (0, 0)) ∧ w1.heap.size = w.heap.size + 1) := ⟨hb1, hn1, hs1⟩
    have gl : ((l.length : Int) == 0) = false := by rw [beq_eq_false_iff_ne]; omega
    have hl1 : (0 : Int) < (l.length : Int) := by omega
    have hio : IntKind.i64.wrap ((l.length : Int) + 1) = ((l.length + 1 : Nat) : Int) := by rw [IntWalk.i64_in _ ⟨by omega, by omega⟩]; omega
    clear h ho hb1 hn1 hs1 hl
    go_enter Try.func14, Try.ntmps14
    go_upto_region 3 with (fail)
    go_region_held3 (fun w' => w'.cell? ⟨b, o + 2, none⟩ = some (.int .i64 T0)) (first | with_reducible exact HTK.out _ B7.out | with_reducible exact HTK.out _ B6.out | with_reducible exact HTK.out _ B5.out | with_reducible exact HTK.out _ HB1.out.1.drew | exact HTK.out _ ((setSt w7 w.heap.size _ _ _ _ _ _ _ _ _ _ _ _).2 _ _ B7.out (Nat.le_refl _)))
      (first
        | (go_at_call 23; refine (HPC.out _ (HB1.out.1.drew)).mono ?_; rintro x w5 ⟨pa, pc, rfl, r5, b5⟩; have B5 : Hid (Below w.heap.size w w5) := below_next HB1.out.1 (Nat.le_refl _) (below_undrew b5); have B5w := Lib.hid (below_undrew b5); have R5 := Lib.hid r5; unfold ProgS.val'; clear r5 b5)
        | (go_at_call 21; refine (HSA.out _ (by repeat (first | exact B5.out | apply Below.drew))).mono ?_; rintro x w6 ⟨rfl, rfl⟩)
        | (go_at_call 24; refine (HAS.out _ (by repeat (first | exact B5.out | apply Below.drew))).mono ?_; rintro x w6 ⟨rfl, rfl⟩)
        | (go_at_call 25; refine (HTA.out _ (by repeat (first | exact B5.out | apply Below.drew))).mono ?_; rintro x w6 ⟨rfl, rfl⟩)
        | (go_at_call 26; refine (HFR.out _ (by repeat (first | exact B5.out | apply Below.drew))).mono ?_; rintro x w6 ⟨rfl, rfl⟩)
        | (go_at_call 27; refine (HJO.out _ (by repeat (first | exact B5.out | apply Below.drew))).mono ?_; rintro x w6 ⟨jv, rfl, o6, b6⟩; have B6 : Hid (Below w.heap.size w w6) := B5.out.trans (b6.mono B5.out.size); have B6w := Lib.hid b6; have O6 := Lib.hid o6; obtain ⟨ja, jc, rfl⟩ := o6.1.slice; clear o6 b6)
        | (go_at_call 28; refine (HCO.out _ (by repeat (first | exact B6.out | apply Below.drew))).mono ?_; rintro x w7 ⟨cv, rfl, o7, b7⟩; have B7 : Hid (Below w.heap.size w w7) := B6.out.trans (b7.mono B6.out.size); have B7w := Lib.hid b7; have O7 := Lib.hid o7; obtain ⟨ca, cc, rfl⟩ := o7.1.slice; have N5 := Lib.hid ((B5w.out.block _ (block_lt HB1.out.2.1)).trans HB1.out.2.1); have N6 := Lib.hid ((B6w.out.block _ (block_lt N5.out)).trans N5.out); have N7 := Lib.hid ((B7w.out.block _ (block_lt N6.out)).trans N6.out); clear o7 b7; have hn7 : w7.heap[w.heap.size]? = some (.cells #[.slice none 0 0, .int .i64 0, .int .i64 0, .int .i64 0, .int .i64 0, .int .i64 0, .int .i64 0, .bool false, .slice none 0 0, .slice none 0 0, .bool false, .bool false] 30 (0, 0)) := N7.out; have q0 := (block_cell hn7 0).trans rfl; have f0 := block_free hn7 0; have q1 := (block_cell hn7 1).trans rfl; have f1 := block_free hn7 1; have q2 := (block_cell hn7 2).trans rfl; have f2 := block_free hn7 2; have q3 := (block_cell hn7 3).trans rfl; have f3 := block_free hn7 3; have q4 := (block_cell hn7 4).trans rfl; have f4 := block_free hn7 4; have q5 := (block_cell hn7 5).trans rfl; have f5 := block_free hn7 5; have q6 := (block_cell hn7 6).trans rfl; have f6 := block_free hn7 6; have q7 := (block_cell hn7 7).trans rfl; have f7 := block_free hn7 7; have q8 := (block_cell hn7 8).trans rfl; have f8 := block_free hn7 8; have q9 := (block_cell hn7 9).trans rfl; have f9 := block_free hn7 9; have q10 := (block_cell hn7 10).trans rfl; have f10 := block_free hn7 10; have q11 := (block_cell hn7 11).trans rfl; have f11 := block_free hn7 11; clear hn7)
        | (go_at_call 29; refine (HLA.out _ _ (by repeat (first | exact B7.out | apply Below.drew))).mono ?_; rintro x w8 ⟨rfl, rfl⟩))
    have HLT : Hid (w.heap.size < w5.heap.size ∧ w.heap.size < w6.heap.size) := by
      have h1 := B5w.out.size
      have h2 := B6w.out.size
      have h3 := HB1.out.2.2
      exact ⟨by omega, by omega⟩
    have R7 := Lib.hid (R5.out.below (B6w.out.trans (B7w.out.mono B6w.out.size)))
    have O6' := Lib.hid (O6.out.below B7w.out)
    have O7' := Lib.hid O6.out.2.1
    clear B5 B6 B5w B6w B7w R5 O6 N5 N6 HPC HSA HAS HTA HFR HLA HJO HCO
    go_wp2
    (try simp only [Exit.inBlock, Exit.then])
    refine bodyPost_ret (v := .agg #[.slice pa P.steps.length pc, .int .i64 P.limit, .int .i64 (ST : Int), .int .i64 ((l.length : Int) + 1), .int .i64 T0, .int .i64 (AS : Int), .int .i64 (TA : Int), .bool FR, .slice ja JL.length jc, .slice ca CL.length cc, .bool (decide (0 < lastH l 13)), .bool (decide (0 < lastH l 14))]) ?_ rfl ⟨.slice pa P.steps.length pc, .slice ja JL.length jc, .slice ca CL.length cc, by rw [HSS.out]; rfl, ?_, ⟨fun k hk => Nat.le_trans (Nat.le_of_lt HLT.out.1) (O7'.out k hk).1, fun k hk => Nat.le_trans (Nat.le_of_lt HLT.out.2) (O7.out.2.1 k hk).1⟩, (setSt w7 w.heap.size _ _ _ _ _ _ _ _ _ _ _ _).2 _ _ B7.out (Nat.le_refl _)⟩
    · rw [results_cell14 rfl]
      go_simp
    · rw [HSS.out]
      exact ⟨R7.out.far (setSt w7 w.heap.size _ _ _ _ _ _ _ _ _ _ _ _).1 N7.out zeroSt_text, O6'.out.far HLT.out.1 (setSt w7 w.heap.size _ _ _ _ _ _ _ _ _ _ _ _).1, O7.out.far HLT.out.2 (setSt w7 w.heap.size _ _ _ _ _ _ _ _ _ _ _ _).1⟩
end Go.Proofs.Ytlkfpeefjpmmfaa

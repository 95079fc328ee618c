/- Joined: W14m R14g. -/
import Derived.Test.YtlkfpeefjpmmfaaW14i
import Derived.Test.YtlkfpeefjpmmfaaW14k
import Derived.Test.YtlkfpeefjpmmfaaW14l
import Derived.Test.YtlkfpeefjpmmfaaJ22

namespace Go.Proofs.Ytlkfpeefjpmmfaa
open Go.RowKit
set_option linter.unusedVariables false

theorem change_any {base q : Nat} {w : World} {g j k : Value} {S : StS} (h : StAt base q w g j k S) (hgd : GoodS S) (hz : S.next = 0 → S = StS.zero) {e : EvS} (hd : e.data.size ≤ 140737488351232) (he : errS S e = 0) :
    Calls Try.prog 17 #[.pointer (some ⟨q, 0, none⟩), e.val'] w fun x w' => x = .returned (.tuple #[]) ∧ (∃ g' j' k', StAt base q w' g' j' k' (aftS S e)) ∧ Below base w w' := by
  obtain ⟨hev, h0, h1⟩ := err_zero he
  by_cases hn : S.next = 0
  · obtain ⟨hk, hid⟩ := h0 hn
    have hS := hz hn
    have ha : aftS S e = { StS.zero with prog := progE e, next := e.id + 1, began := e.tick, fresh := true } := by
      unfold aftS
      rw [if_pos hn, hid]
      rfl
    rw [ha]
    exact change_1 h hev hk hS hd
  · obtain ⟨hs, hid, hc⟩ := h1 hn
    have hkd := ((evB_iff _).1 hev).kind
    have hjl := hgd.jl
    have hcl := hgd.cl
    have hks : e.kind = 1 ∨ e.kind = 2 ∨ e.kind = 3 ∨ e.kind = 4 ∨ e.kind = 5 ∨ e.kind = 6 ∨ e.kind = 7 ∨ e.kind = 8 ∨ e.kind = 9 ∨ e.kind = 10 ∨ e.kind = 11 ∨ e.kind = 12 ∨ e.kind = 13 ∨ e.kind = 14 ∨ e.kind = 15 ∨ e.kind = 16 ∨ e.kind = 17 ∨ e.kind = 18 := by omega
    rcases hks with hk | hk | hk | hk | hk | hk | hk | hk | hk | hk | hk | hk | hk | hk | hk | hk | hk | hk
    · rw [can_none hk] at hc; cases hc
    · have ha : aftS S e = { S with next := e.id + 1, asked := e.id } := by unfold aftS; rw [if_neg hn, hid]; simp [hk]
      rw [ha]
      exact change_2 h hev hk
    · have ha : aftS S e = { S with next := e.id + 1, taken := e.id, asked := 0, fresh := false } := by unfold aftS; rw [if_neg hn, hid]; simp [hk]
      rw [ha]
      exact change_3 h hev hk
    · have ha : aftS S e = { S with next := e.id + 1, taken := 0 } := by unfold aftS; rw [if_neg hn, hid]; simp [hk]
      rw [ha]
      exact change_4 h hev hk
    · have ha : aftS S e = { S with next := e.id + 1, taken := 0, fresh := true } := by unfold aftS; rw [if_neg hn, hid]; simp [hk]
      rw [ha]
      exact change_5 h hev hk
    · have ha : aftS S e = { S with next := e.id + 1, jobs := S.jobs ++ [⟨e.id, e.step, e.undo, 1⟩] } := by unfold aftS; rw [if_neg hn, hid]; simp [hk]
      rw [ha]
      exact change_6 h hev hk (by omega)
    · rw [can_7 hgd hk] at hc
      have ha : aftS S e = { S with next := e.id + 1, jobs := S.jobs.filter (fun x => !isT e x), fresh := true } := by unfold aftS; rw [if_neg hn, hid, job_struck hgd hc]; simp [hk]
      rw [ha]
      exact change_7 h hev hk (by omega)
    · rw [can_8 hgd hk] at hc
      have hc2 : S.jobs.any (isT e) = true := by
        obtain ⟨x, hx, hp⟩ := List.any_eq_true.1 hc
        rw [Bool.and_eq_true] at hp
        exact List.any_eq_true.2 ⟨x, hx, hp.1⟩
      obtain ⟨i, hi⟩ := any_found.1 hc2
      obtain ⟨hil, hm⟩ := job_again hgd hi
      have ha : aftS S e = { S with next := e.id + 1, jobs := S.jobs.set i { S.jobs[i] with tryN := S.jobs[i].tryN + 1 } } := by unfold aftS; rw [if_neg hn, hid, hm]; simp [hk]
      rw [ha]
      exact change_8 h hev hk (by omega) hil hi (hgd.jt _ (List.getElem_mem hil))
    · rw [can_9 hgd hk] at hc
      have hc2 : S.jobs.any (isT e) = true := by
        obtain ⟨x, hx, hp⟩ := List.any_eq_true.1 hc
        rw [Bool.and_eq_true] at hp
        exact List.any_eq_true.2 ⟨x, hx, hp.1⟩
      have ha : aftS S e = { S with next := e.id + 1, jobs := S.jobs.filter (fun x => !isT e x), fresh := true } := by unfold aftS; rw [if_neg hn, hid, job_struck hgd hc2]; simp [hk]
      rw [ha]
      exact change_9 h hev hk (by omega)
    · rw [can_10 hk, beq_iff_eq] at hc
      have hg : stepAt S.prog e.step = stepG S.prog e.step := stepG_at (k := 2) (by rw [stepG_is _ _ _ (by decide), decide_eq_true hc])
      have ha : aftS S e = { S with next := e.id + 1, clocks := S.clocks ++ [⟨e.id, e.step, e.tick + (stepG S.prog e.step).wait⟩] } := by unfold aftS; rw [if_neg hn, hid, hg]; simp [hk]
      rw [ha]
      have hw := stepG_wait hgd.pg hc
      exact change_10 h hev hk (by omega) ⟨by omega, hw.2⟩
    · rw [can_11 hgd hk] at hc
      have ha : aftS S e = { S with next := e.id + 1, clocks := S.clocks.filter (fun x => !isF e x), fresh := true } := by unfold aftS; rw [if_neg hn, hid, clk_struck hgd hc]; simp [hk]
      rw [ha]
      exact change_11 h hev hk (by omega)
    · have ha : aftS S e = { S with next := e.id + 1, fresh := true } := by unfold aftS; rw [if_neg hn, hid]; simp [hk]
      rw [ha]
      exact change_12 h hev hk
    · have ha : aftS S e = { S with next := e.id + 1, cancel := true, fresh := true } := by unfold aftS; rw [if_neg hn, hid]; simp [hk]
      rw [ha]
      exact change_13 h hev hk
    · have ha : aftS S e = { S with next := e.id + 1, overdue := true, fresh := true } := by unfold aftS; rw [if_neg hn, hid]; simp [hk]
      rw [ha]
      exact change_14 h hev hk
    · have ha : aftS S e = { S with next := e.id + 1, status := 1, asked := 0, taken := 0, fresh := false, jobs := [], clocks := [] } := by unfold aftS statusK; rw [if_neg hn, hid]; simp [hk]
      rw [ha]
      exact change_15 h hev hk
    · have ha : aftS S e = { S with next := e.id + 1, status := 2, asked := 0, taken := 0, fresh := false, jobs := [], clocks := [] } := by unfold aftS statusK; rw [if_neg hn, hid]; simp [hk]
      rw [ha]
      exact change_16 h hev hk
    · have ha : aftS S e = { S with next := e.id + 1, status := 3, asked := 0, taken := 0, fresh := false, jobs := [], clocks := [] } := by unfold aftS statusK; rw [if_neg hn, hid]; simp [hk]
      rw [ha]
      exact change_17 h hev hk
    · have ha : aftS S e = { S with next := e.id + 1, status := 4, asked := 0, taken := 0, fresh := false, jobs := [], clocks := [] } := by unfold aftS statusK; rw [if_neg hn, hid]; simp [hk]
      rw [ha]
      exact change_18 h hev hk
end Go.Proofs.Ytlkfpeefjpmmfaa

namespace Go.Proofs.Ytlkfpeefjpmmfaa
open Go.RowKit
set_option linter.unusedVariables false

set_option maxHeartbeats 4000000 in
set_option maxRecDepth 100000 in
theorem rtried_any {w : World} {v : Value} {l : List EvS} (h : ReadE w v l) (ho : OkH l) (hl : l ≠ []) (e : EvS) (hk : e.kind = 7 ∨ e.kind = 8 ∨ e.kind = 9) :
    Calls Try.prog 48 #[v, e.val'] w fun x w' => x = .returned (.bool (triedS (progH l) (jobsH l) e)) ∧ Below w.heap.size w w' := by
  obtain ⟨id, kind, tick, ref, step, tryN, undo, data⟩ := e
  simp only at hk
  obtain ⟨w1, hw1⟩ : ∃ w1, w.alloc (.cells #[.int .i64 id, .int .i64 kind, .int .i64 tick, .int .i64 ref, .int .i64 step, .int .i64 tryN, .bool undo, .string data] 39) = w1 := ⟨_, rfl⟩
  have hb1 : Below w.heap.size w w1 := by rw [← hw1]; exact (Below.refl _ w).alloc (Nat.le_refl _) _
  have hn1 : w1.heap[w.heap.size]? = some (.cells #[.int .i64 id, .int .i64 kind, .int .i64 tick, .int .i64 ref, .int .i64 step, .int .i64 tryN, .bool undo, .string data] 39 (0, 0)) := by rw [← hw1]; exact heap_alloc_new _ _
  have HCL := Lib.hid (rjobs_any (h.below hb1) (Nat.le_trans ho.len (by omega)))
  have HPC : Hid (∀ wx, Below w.heap.size w wx → Calls Try.prog 23 #[v] wx fun e w' => ∃ a c, e = .returned ((progH l).val' a c) ∧ ReadG w' (.slice a (progH l).steps.length c) (progH l).steps ∧ Below wx.heap.size wx w') := fun wx t => rprogram_any (h.below t) ho hl
  have HFS : Hid (∀ (j : JobS) , (jobsH l).find? (fun j => decide (j.id = ref) && decide (j.tryN = tryN)) = some j → triedS (progH l) (jobsH l) ⟨id, kind, tick, ref, step, tryN, undo, data⟩ = (decide (kind = 7) || (decide (kind = 8) && decide (tryN < triesS (progH l) j)) || (decide (kind = 9) && decide (tryN = triesS (progH l) j)))) := fun c hc => by unfold triedS; simp only [hc]
  have HFN : Hid ((jobsH l).find? (fun j => decide (j.id = ref) && decide (j.tryN = tryN)) = none → triedS (progH l) (jobsH l) ⟨id, kind, tick, ref, step, tryN, undo, data⟩ = false) := fun hc => by unfold triedS; simp only [hc]
  have HB1 : Hid (Below w.heap.size w w1 ∧ w1.heap[w.heap.size]? = some (.cells #[.int .i64 id, .int .i64 kind, .int .i64 tick, .int .i64 ref, .int .i64 step, .int .i64 tryN, .bool undo, .string data] 39 (0, 0))) := ⟨hb1, hn1⟩
  generalize triedS (progH l) (jobsH l) ⟨id, kind, tick, ref, step, tryN, undo, data⟩ = FSX at *
  generalize jobsH l = cl at *
  generalize progH l = P at *
  unfold EvS.val'
  clear h hb1 hn1
  go_enter Try.func48, Try.ntmps48
  go_wp2_with fail
  refine HCL.out.mono ?_
  rintro x w2 ⟨v2, rfl, o2, b2⟩
  obtain ⟨ca, cc, rfl⟩ := o2.1.slice
  have hml : cl.length ≤ 9223372036854775807 := by have := o2.1.1; unfold maxLen at this; omega
  have HO2 := Lib.hid o2
  have HB2 : Hid (Below w.heap.size w w2 ∧ w2.heap[w.heap.size]? = some (.cells #[.int .i64 id, .int .i64 kind, .int .i64 tick, .int .i64 ref, .int .i64 step, .int .i64 tryN, .bool undo, .string data] 39 (0, 0))) := ⟨HB1.out.1.trans (b2.mono HB1.out.1.size), (b2.block _ (block_lt HB1.out.2)).trans HB1.out.2⟩
  clear o2 b2 hw1 HB1 HCL
  go_wp2
  go_loopw [6] (fun iv wr => ∃ i : Nat, i ≤ cl.length ∧ iv = .int .i64 (i : Int) ∧ Hid ((cl.take i).find? (fun j => decide (j.id = ref) && decide (j.tryN = tryN)) = none) ∧ Hid (Below w2.heap.size w2 wr)) (fun iv _ => cl.length - (intOf iv).toNat)
  case atStart => exact ⟨0, Nat.zero_le _, rfl, rfl, Below.refl _ _⟩
  case round =>
    obtain ⟨i, hi, rfl, HA, HW⟩ := hrel
    have hnw := (HW.out.block _ (block_lt HB2.out.2)).trans HB2.out.2
    have c1 := (block_cell hnw 1).trans rfl
    have c3 := (block_cell hnw 3).trans rfl
    have c5 := (block_cell hnw 5).trans rfl
    clear hnw
    by_cases hlt : i < cl.length
    · obtain ⟨b, o, rfl, q0, q1, q2, q3⟩ := (HO2.out.1.below HW.out).job hlt
      have HSJ : Hid (∀ w', Below w2.heap.size w2 w' → w'.cell? ⟨b, o + i * 4, none⟩ = some (.int .i64 cl[i].id) ∧ w'.cell? ⟨b, o + i * 4 + 1, none⟩ = some (.int .i64 cl[i].step) ∧ w'.cell? ⟨b, o + i * 4 + 2, none⟩ = some (.bool cl[i].undo) ∧ w'.cell? ⟨b, o + i * 4 + 3, none⟩ = some (.int .i64 cl[i].tryN)) := fun w' t => by
        obtain ⟨b2, o2, hb2, p0, p1, p2, p3⟩ := (HO2.out.1.below t).job hlt
        injection hb2 with hb2
        injection hb2 with e1 e2
        subst e1 e2
        exact ⟨p0, p1, p2, p3⟩
      have HSE : Hid (∀ w', Below w2.heap.size w2 w' → w'.cell? ⟨w.heap.size, 1, none⟩ = some (.int .i64 kind) ∧ w'.cell? ⟨w.heap.size, 5, none⟩ = some (.int .i64 tryN)) := fun w' t => by
        have hn := (t.block _ (block_lt HB2.out.2)).trans HB2.out.2
        exact ⟨(block_cell hn 1).trans rfl, (block_cell hn 5).trans rfl⟩
      have HH := Lib.hid (find_hit (p := fun j => decide (j.id = ref) && decide (j.tryN = tryN)) hlt HA.out)
      have HM := Lib.hid (find_miss (p := fun j => decide (j.id = ref) && decide (j.tryN = tryN)) hlt HA.out)
      have hmes : cl.length - (intOf (.int .i64 ((i : Int) + 1))).toNat < cl.length - (intOf (.int .i64 (i : Int))).toNat := by simp [intOf]; omega
      have hi1 : (0 : Int) ≤ (i : Int) := Int.natCast_nonneg _
      have hi2 : (i : Int) < (cl.length : Int) := by omega
      generalize cl[i] = y at *
      by_cases hr : y.id = ref
      · have g1 : (y.id == ref) = true := by rw [beq_iff_eq]; exact hr
        by_cases ht : y.tryN = tryN
        · have HF := Lib.hid (HFS.out _ (HH.out (by simp [hr, ht])))
          have g2 : (y.tryN == tryN) = true := by rw [beq_iff_eq]; exact ht
          clear hr ht
          go_wp2
          go_quiet (fail)
          have HW2 := Lib.hid (below_drewN HW.out nq)
          have HT2 : Hid (∀ wx, Below w2.heap.size w2 wx → Below w.heap.size w wx) := fun wx t => HB2.out.1.trans (t.mono HB2.out.1.size)
          generalize hwq : wr.drewN nq = wq at *
          clear c1 c3 c5 q0 q1 q2 q3
          go_upto_region 6 with (fail)
          have HTR := Lib.hid (fun w' a c r => @rtries_any w' a c P y r)
          go_region_held3 (fun w' => w'.cell? ⟨b, o + i * 4, none⟩ = some (.int .i64 y.id) ∧ w'.cell? ⟨b, o + i * 4 + 1, none⟩ = some (.int .i64 y.step) ∧ w'.cell? ⟨b, o + i * 4 + 2, none⟩ = some (.bool y.undo) ∧ w'.cell? ⟨b, o + i * 4 + 3, none⟩ = some (.int .i64 y.tryN)) (first | exact HSJ.out _ (by repeat (first | exact B6.out | exact B5.out | exact HW2.out | apply Below.drew)))
            (first
              | (go_at_call 23; refine (HPC.out _ (HT2.out _ (by repeat (first | exact HW2.out | apply Below.drew)))).mono ?_; rintro e w5 ⟨pa, pc, rfl, r5, b5⟩; have B5 : Hid (Below w2.heap.size w2 w5) := (below_next HW2.out (Nat.le_refl _) (below_undrew b5)); have R5 := Lib.hid r5; clear r5 b5)
              | (go_at_call 74; refine (HTR.out _ _ _ R5.out).mono ?_; rintro e w6 ⟨rfl, b6⟩; have B6 : Hid (Below w2.heap.size w2 w6) := (B5.out.trans (b6.mono B5.out.size)); clear b6))
          all_goals
            obtain ⟨c1, c5⟩ := HSE.out w6 B6.out
            clear HSJ HSE HH HM
            generalize triesS P y = T at *
            have HW6 := Lib.hid (HB2.out.1.trans (B6.out.mono HB2.out.1.size))
            rcases hk with rfl | rfl | rfl
          · have HF7 : Hid (FSX = true) := HF.out
            go_wp2
            go_ret
            exact ⟨by rw [HF7.out]; rfl, HW6.out⟩
          · by_cases hT : tryN < T
            · have HF8 : Hid (FSX = true) := by show _ = _; rw [HF.out]; simp [hT]
              go_wp2
              go_ret
              exact ⟨by rw [HF8.out]; rfl, HW6.out⟩
            · have HF8 : Hid (FSX = false) := by show _ = _; rw [HF.out]; simp [hT]
              go_wp2
              go_ret
              exact ⟨by rw [HF8.out]; rfl, HW6.out⟩
          · have HF9 : Hid (FSX = decide (tryN = T)) := by show _ = _; rw [HF.out]; simp
            go_wp2
            go_ret
            exact ⟨by rw [HF9.out]; rfl, HW6.out⟩
        · have HN := Lib.hid (HM.out (by simp [ht]))
          have g2 : (y.tryN == tryN) = false := by rw [beq_eq_false_iff_ne]; exact ht
          clear hr ht HSJ HSE
          go_wp2
          go_quiet (fail)
          have HW2 := Lib.hid (below_drewN HW.out nq)
          go_wp2
          go_roundw
          case rel => exact ⟨i + 1, by omega, by go_num, HN.out, HW2.out⟩
          case measure => exact hmes
      · have HN := Lib.hid (HM.out (by simp [hr]))
        have g1 : (y.id == ref) = false := by rw [beq_eq_false_iff_ne]; exact hr
        clear hr HSJ HSE
        go_wp2
        go_quiet (fail)
        have HW2 := Lib.hid (below_drewN HW.out nq)
        go_wp2
        go_roundw
        case rel => exact ⟨i + 1, by omega, by go_num, HN.out, HW2.out⟩
        case measure => exact hmes
    · obtain rfl : i = cl.length := by omega
      have HF := Lib.hid (HFN.out (by have := HA.out; rwa [List.take_length] at this))
      have hll : ¬ (cl.length : Int) < (cl.length : Int) := by omega
      go_wp2
      go_ret
      exact ⟨by rw [HF.out]; rfl, HB2.out.1.trans (HW.out.mono HB2.out.1.size)⟩
end Go.Proofs.Ytlkfpeefjpmmfaa

/- Layer 14: contracts of the reference's Jobs, Clocks. -/
import Derived.Test.YtlkfpeefjpmmfaaJ18
import Derived.Deep.RegionLaw
import Derived.Deep.Cut
namespace Go.Proofs.Ytlkfpeefjpmmfaa
open Go.RowKit
set_option linter.unusedVariables false

theorem OkH.len {l : List EvS} (h : OkH l) : l.length ≤ 500 := by
  cases l with
  | nil => simp
  | cons x r =>
    have h1 := h.ev r.length (by simp)
    have h2 := ((evB_iff _).1 h1.2).id
    rw [h1.1] at h2
    simp only [List.length_cons]
    omega
theorem jobsL_next (l : List EvS) (i : Nat) : jobsL l (i + 1) = jobsL l i ++ (jobAt l i).toList := range_fm _ _
theorem clksL_next (l : List EvS) (i : Nat) : clksL l (i + 1) = clksL l i ++ (clkAt l i).toList := range_fm _ _
theorem jobsL_len (l : List EvS) (i : Nat) : (jobsL l i).length ≤ i := by
  have := List.length_filterMap_le (jobAt l) (List.range i)
  rwa [List.length_range] at this
theorem clksL_len (l : List EvS) (i : Nat) : (clksL l i).length ≤ i := by
  have := List.length_filterMap_le (clkAt l) (List.range i)
  rwa [List.length_range] at this
theorem retr_take {l : List EvS} {k : Nat} (h : k < l.length) (r : Int) : retrH (l.take (k + 1)) r = retrH (l.take k) r + if l[k].kind = 8 ∧ l[k].ref = r then 1 else 0 := by
  rw [List.take_succ_eq_append_getElem h, retr_snoc]
theorem retr_len (l : List EvS) (r : Int) : retrH l r ≤ l.length := List.countP_le_length
theorem jobAt_val {l : List EvS} {i : Nat} (h : i < l.length) : jobAt l i = if l[i].kind = 6 ∧ endedH l ((i + 1 : Nat) : Int) 7 9 = false then some ⟨((i + 1 : Nat) : Int), l[i].step, l[i].undo, ((1 + retrH l ((i + 1 : Nat) : Int) : Nat) : Int)⟩ else none := by
  unfold jobAt
  rw [List.getElem?_eq_getElem h]
theorem infoJob : (Try.prog.info? 49).map (fun i => (i.zero, i.size, i.bytes)) = some (some (.agg #[.int .i64 0, .int .i64 0, .bool false, .int .i64 0]), 4, 32) := by kernel_rfl
theorem infoClk : (Try.prog.info? 51).map (fun i => (i.zero, i.size, i.bytes)) = some (some (.agg #[.int .i64 0, .int .i64 0, .int .i64 0]), 3, 24) := by kernel_rfl

set_option maxHeartbeats 4000000 in
set_option maxRecDepth 100000 in
theorem rjobs_any {w : World} {v : Value} {l : List EvS} (h : ReadE w v l) (hb : l.length ≤ 1000) :
    Calls Try.prog 27 #[v] w fun e w' => ∃ v', e = .returned v' ∧ OwnR JobS.cells 4 w.heap.size w' v' (jobsH l) ∧ Below w.heap.size w w' := by
  obtain ⟨i0, hi0, hz0, hz1, hz2⟩ := info_parts infoJob
  have HST : Hid (∀ wx, Below w.heap.size w wx → Calls Try.prog 21 #[v] wx fun e w' => e = .returned (.int .i64 (statusH l : Nat)) ∧ wx = w') := fun wx t => (rstatus_any (h.below t)).mono fun e w' h => ⟨h.1, h.2.symm⟩
  have HEN : Hid (∀ wx (r : Int), Below w.heap.size w wx → Calls Try.prog 50 #[v, .int .i64 r, .int .i64 7, .int .i64 9] wx fun e w' => e = .returned (.bool (endedH l r 7 9)) ∧ wx = w') := fun wx r t => (rended_any (h.below t) r 7 9).mono fun e w' h => ⟨h.1, h.2.symm⟩
  obtain ⟨va, vc, rfl⟩ := h.slice
  have H := Lib.hid h
  have HJ : Hid (jobsH l = if statusH l = 0 then jobsL l l.length else []) := rfl
  generalize statusH l = S at *
  generalize jobsH l = JJ at *
  clear h
  go_enter Try.func27, Try.ntmps27
  go_wp2
  go_loopw [3, 4] (fun jv iv wr => ∃ i : Nat, i ≤ l.length ∧ (S ≠ 0 → i = 0) ∧ iv = .int .i64 (i : Int) ∧ Hid (wr.ownsRow 0 49 4 jv (jobsL l i).length (rowR JobS.cells (jobsL l i)) ∧ (∀ k, jv.ownBlock = some k → w.heap.size ≤ k) ∧ Below w.heap.size w wr)) (fun _ iv _ => l.length - (intOf iv).toNat)
  case atStart => exact ⟨0, Nat.zero_le _, fun _ => rfl, rfl, World.ownsRow_nil _ _ _ _, fun k hk => by simp [Value.ownBlock] at hk, Below.refl _ _⟩
  case round =>
    obtain ⟨i, hi, hs0, rfl, HI⟩ := hrel
    by_cases hlt : i < l.length
    · by_cases hS : S = 0
      · subst hS
        have hlt2 : (i : Int) < (l.length : Int) := by omega
        go_wp2_with fail
        refine (HST.out _ HI.out.2.2).mono ?_
        rintro e w1 ⟨rfl, rfl⟩
        obtain ⟨b, o, rfl, q0, q1, q2, q3, q4, q5, q6, q7, -⟩ := (H.out.below HI.out.2.2).at hlt
        have HV := Lib.hid (jobAt_val hlt)
        have HNX := Lib.hid (jobsL_next l i)
        have hmes : l.length - (intOf (.int .i64 ((i : Int) + 1))).toNat < l.length - (intOf (.int .i64 (i : Int))).toNat := by simp [intOf]; omega
        have hmes2 : l.length - (intOf (.int .i64 ((i + 1 : Nat) : Int))).toNat < l.length - (intOf (.int .i64 (i : Int))).toNat := by simp [intOf]; omega
        have hio : IntKind.i64.wrap ((i : Int) + 1) = ((i + 1 : Nat) : Int) := by rw [IntWalk.i64_in _ ⟨by omega, by omega⟩]; omega
        generalize l[i] = x at *
        have HNO : Hid (¬ (x.kind = 6 ∧ endedH l ((i + 1 : Nat) : Int) 7 9 = false) → jobsL l (i + 1) = jobsL l i) := fun hn => by
          rw [HNX.out, HV.out, if_neg hn]; simp
        by_cases h6 : x.kind = 6
        · have HEC := Lib.hid (HEN.out wr ((i + 1 : Nat) : Int) HI.out.2.2)
          cases hE : endedH l ((i + 1 : Nat) : Int) 7 9 with
          | true =>
            have HQ : Hid (jobsL l (i + 1) = jobsL l i) := HNO.out (fun h => by rw [hE] at h; cases h.2)
            rw [hE] at HEC
            have g6 : (x.kind != 6) = false := by simp [h6]
            clear h6 hE HV
            go_wp2_with fail
            refine HEC.out.mono ?_
            rintro e w1 ⟨rfl, rfl⟩
            clear hio
            go_wp2
            go_roundw
            case rel => exact ⟨i + 1, by omega, fun h => (h rfl).elim, by go_num, by rw [HQ.out]; exact HI.out⟩
            case measure => exact hmes
          | false =>
            have HQ : Hid (jobsL l (i + 1) = jobsL l i ++ [⟨((i + 1 : Nat) : Int), x.step, x.undo, ((1 + retrH l ((i + 1 : Nat) : Int) : Nat) : Int)⟩]) := by
              show _ = _
              rw [HNX.out, HV.out, if_pos ⟨h6, hE⟩]; simp
            rw [hE] at HEC
            have g6 : (x.kind != 6) = false := by simp [h6]
            have hrl := retr_len l ((i + 1 : Nat) : Int)
            clear h6 hE HV
            go_wp2_with fail
            refine HEC.out.mono ?_
            rintro e w1 ⟨rfl, rfl⟩
            go_wp2
            go_loop [5, 6] (fun tv kv => ∃ k : Nat, k ≤ l.length ∧ kv = .int .i64 (k : Int) ∧ tv = .int .i64 ((1 + retrH (l.take k) ((i + 1 : Nat) : Int) : Nat) : Int)) (fun _ kv => l.length - (intOf kv).toNat)
            case atStart => exact ⟨0, Nat.zero_le _, rfl, rfl⟩
            case round =>
              obtain ⟨k, hk, rfl, rfl⟩ := hrel
              by_cases hkl : k < l.length
              · obtain ⟨b2, o2, hb2, p0, p1, p2, p3, p4, p5, p6, p7, -⟩ := (H.out.below HI.out.2.2).at hkl
                injection hb2 with hb2
                injection hb2 with e1 e2
                subst e1 e2
                have HRT := Lib.hid (retr_take hkl ((i + 1 : Nat) : Int))
                have hle : retrH (l.take k) ((i + 1 : Nat) : Int) ≤ 1000 := by
                  have := retr_len (l.take k) ((i + 1 : Nat) : Int)
                  rw [List.length_take] at this
                  omega
                have hmes3 : l.length - (intOf (.int .i64 ((k : Int) + 1))).toNat < l.length - (intOf (.int .i64 (k : Int))).toNat := by simp [intOf]; omega
                have hkl2 : (k : Int) < (l.length : Int) := by omega
                generalize retrH (l.take k) ((i + 1 : Nat) : Int) = RT at *
                generalize l[k] = y at *
                have ht1 : IntKind.i64.wrap (((1 + RT : Nat) : Int) + 1) = ((1 + (RT + 1) : Nat) : Int) := by rw [IntWalk.i64_in _ ⟨by omega, by omega⟩]; omega
                by_cases h8 : y.kind = 8
                · have g8 : (y.kind == 8) = true := by rw [beq_iff_eq]; exact h8
                  by_cases hr : y.ref = ((i + 1 : Nat) : Int)
                  · have gr : (y.ref == ((i + 1 : Nat) : Int)) = true := by rw [beq_iff_eq]; exact hr
                    have HR2 : Hid (retrH (l.take (k + 1)) ((i + 1 : Nat) : Int) = RT + 1) := by show _ = _; rw [HRT.out, if_pos ⟨h8, hr⟩]
                    clear h8 hr HRT
                    go_wp2
                    go_round
                    case rel => exact ⟨k + 1, by omega, by go_num, by first | (rw [HR2.out]; done) | (rw [HR2.out]; congr 1; done) | (rw [HR2.out]; congr 1; omega)⟩
                    case measure => exact hmes3
                  · have gr : (y.ref == ((i + 1 : Nat) : Int)) = false := by rw [beq_eq_false_iff_ne]; exact hr
                    have HR2 : Hid (retrH (l.take (k + 1)) ((i + 1 : Nat) : Int) = RT) := by show _ = _; rw [HRT.out, if_neg (fun h => hr h.2), Nat.add_zero]
                    clear h8 hr HRT
                    go_wp2
                    go_round
                    case rel => exact ⟨k + 1, by omega, by go_num, by first | (rw [HR2.out]; done) | (rw [HR2.out]; congr 1; done) | (rw [HR2.out]; congr 1; omega)⟩
                    case measure => exact hmes3
                · have g8 : (y.kind == 8) = false := by rw [beq_eq_false_iff_ne]; exact h8
                  have HR2 : Hid (retrH (l.take (k + 1)) ((i + 1 : Nat) : Int) = RT) := by show _ = _; rw [HRT.out, if_neg (fun h => h8 h.1), Nat.add_zero]
                  clear h8 HRT
                  go_wp2
                  go_round
                  case rel => exact ⟨k + 1, by omega, by go_num, by first | (rw [HR2.out]; done) | (rw [HR2.out]; congr 1; done) | (rw [HR2.out]; congr 1; omega)⟩
                  case measure => exact hmes3
              · obtain rfl : k = l.length := by omega
                rw [List.take_length]
                have hll : ¬ (l.length : Int) < (l.length : Int) := by omega
                generalize retrH l ((i + 1 : Nat) : Int) = RT at *
                obtain ⟨ja, jc, rfl⟩ := row_slice12 HI.out.1
                have hJL := jobsL_len l i
                obtain ⟨jl, hjl⟩ : ∃ jl, jobsL l i = jl := ⟨_, rfl⟩
                rw [hjl] at hJL HI HQ ⊢
                clear hjl HNX
                obtain ⟨W, hW⟩ : ∃ W, (wr.alloc (.cells #[.int .i64 ((i + 1 : Nat) : Int), .int .i64 x.step, .bool x.undo, .int .i64 ((1 + RT : Nat) : Int)] 49)) = W := ⟨_, rfl⟩
                have hbW : Below wr.heap.size wr W := by rw [← hW]; exact (Below.refl _ _).alloc (Nat.le_refl _) _
                have hsrc : SrcRow W (.slice (some ⟨wr.heap.size, 0, none⟩) 1 1) 1 4 (JobS.cells ⟨((i + 1 : Nat) : Int), x.step, x.undo, ((1 + RT : Nat) : Int)⟩) := by
                  rw [← hW]
                  exact src_new (sz := 4) wr #[.int .i64 ((i + 1 : Nat) : Int), .int .i64 x.step, .bool x.undo, .int .i64 ((1 + RT : Nat) : Int)] 49 rfl (JobS.one ⟨((i + 1 : Nat) : Int), x.step, x.undo, ((1 + RT : Nat) : Int)⟩)
                have HW := Lib.hid hW
                have HSRC := Lib.hid hsrc
                have HOWN := Lib.hid (ownsRow_below HI.out.1 hbW)
                have HBW := Lib.hid hbW
                clear hW hbW hsrc
                go_upto_region 12 with (fail)
                go_region_law (refine step_app (wr.alloc (.cells #[.int .i64 ((i + 1 : Nat) : Int), .int .i64 x.step, .bool x.undo, .int .i64 ((1 + RT : Nat) : Int)] 49)).drew (T := 27) (E := 49) (i := i0) (z := .agg #[.int .i64 0, .int .i64 0, .bool false, .int .i64 0]) (sz := 4) (bytes := 32) (v := .slice ja jl.length jc) (n := jl.length) (xs := rowR JobS.cells jl) (m := 1) (news := JobS.cells ⟨((i + 1 : Nat) : Int), x.step, x.undo, ((1 + RT : Nat) : Int)⟩) (by rfl) (.tmp 54) (.tmp 69) (by rfl) Try.underlying27 hi0 hz0 hz1 hz2 rfl (by decide) (by rfl) (by rw [HW.out]; exact HOWN.out) (by rfl) (by rw [HW.out]; exact HSRC.out.drew) (by omega) (by unfold maxLen; omega) ?_; intro b6 c6 w6 own6 g6 l6; have HGR := Lib.hid g6; have HO6 := Lib.hid own6; have HL6 := Lib.hid l6; clear own6 g6 l6)
                all_goals
                  have HN : Hid (w6.ownsRow 0 49 4 (.slice b6 (jl.length + 1) c6) (jobsL l (i + 1)).length (rowR JobS.cells (jobsL l (i + 1))) ∧ (∀ k, (Value.slice b6 (jl.length + 1) c6).ownBlock = some k → w.heap.size ≤ k) ∧ Below w.heap.size w w6) := by
                    have hb2 : Below w.heap.size w (wr.alloc (.cells #[.int .i64 ((i + 1 : Nat) : Int), .int .i64 x.step, .bool x.undo, .int .i64 ((1 + RT : Nat) : Int)] 49)).drew := by rw [HW.out]; exact (HI.out.2.2.trans (HBW.out.mono HI.out.2.2.size)).drew
                    refine ⟨?_, fun k hk => ?_, hb2.grown HGR.out hb2.size (fun k hk => HI.out.2.1 k hk)⟩
                    · rw [HQ.out, List.length_append, rowR_snoc]
                      exact HO6.out
                    · rcases HL6.out k hk with e | e
                      · exact HI.out.2.1 k e
                      · exact Nat.le_trans hb2.size e
                  clear HGR HO6 HL6 hio q0 q1 q2 q3 q4 q5 q6 q7
                  go_wp2
                  go_roundw
                all_goals first | (case rel => exact ⟨i + 1, by omega, fun h => (h rfl).elim, by go_num, HN.out⟩) | skip
                all_goals exact hmes
        · have HQ : Hid (jobsL l (i + 1) = jobsL l i) := HNO.out (fun h => h6 h.1)
          have g6 : (x.kind != 6) = true := by simp [h6]
          clear h6 HV hio
          go_wp2
          go_roundw
          case rel => exact ⟨i + 1, by omega, fun h => (h rfl).elim, by go_num, by rw [HQ.out]; exact HI.out⟩
          case measure => exact hmes
      · have := hs0 hS
        subst this
        have HF : Hid (JJ = jobsL l 0) := by show _ = _; rw [HJ.out, if_neg hS]; rfl
        have gS : ((S : Int) == 0) = false := by rw [beq_eq_false_iff_ne]; omega
        have hlt2 : (0 : Int) < (l.length : Int) := by omega
        clear hS
        go_wp2_with fail
        refine (HST.out _ HI.out.2.2).mono ?_
        rintro e w1 ⟨rfl, rfl⟩
        go_wp2
        go_ret
        exact ⟨_, rfl, by rw [HF.out]; exact OwnR.of JobS.len HI.out.1 HI.out.2.1, HI.out.2.2⟩
    · obtain rfl : i = l.length := by omega
      have hlt2 : ¬ (l.length : Int) < (l.length : Int) := by omega
      have HF : Hid (JJ = jobsL l l.length) := by
        show _ = _
        rw [HJ.out]
        by_cases hS : S = 0
        · rw [if_pos hS]
        · rw [if_neg hS, hs0 hS]
          rfl
      go_wp2
      go_ret
      exact ⟨_, rfl, by rw [HF.out]; exact OwnR.of JobS.len HI.out.1 HI.out.2.1, HI.out.2.2⟩
end Go.Proofs.Ytlkfpeefjpmmfaa

/- Layer 14: the contract of the reference's Clocks. -/
import Derived.Test.YtlkfpeefjpmmfaaR14d
import Derived.Deep.RegionHeld3
namespace Go.Proofs.Ytlkfpeefjpmmfaa
open Go.RowKit
set_option linter.unusedVariables false

theorem OkH.prog {l : List EvS} (h : OkH l) (hl : l ≠ []) : progB (progH l) = true := by
  obtain ⟨x, h1, h2, h3, _⟩ := h.head hl
  have hd : dataB (shapeL x.kind) x.data = true := ((evB_iff x).1 h2).data
  rw [h3] at hd
  have hok : okB x.data.data.toList = true := hd
  obtain ⟨q, hq, he⟩ := (okB_iff _).1 hok
  have e : progH l = (rdProg x.data.data.toList).1 := by unfold progH; rw [h1]; rfl
  rw [e, (rd_is hq he).1]
  exact hq
theorem OkH.armed {l : List EvS} (h : OkH l) : ∀ i (hi : i < l.length), l[i].kind = 10 → stepIs (progH l) l[i].step 2 = true := by
  induction h with
  | nil => intro i hi; simp at hi
  | @snoc l e h0 he ih =>
    intro i hi hk
    rw [List.length_append, List.length_singleton] at hi
    obtain ⟨h1, h2, h3⟩ := err_zero he
    by_cases hlt : i < l.length
    · have hl : l ≠ [] := fun e => by subst e; simp at hlt
      rw [prog_snoc hl]
      rw [List.getElem_append_left hlt] at hk ⊢
      exact ih i hlt hk
    · obtain rfl : i = l.length := by omega
      rw [List.getElem_append_right (Nat.le_refl _)] at hk ⊢
      simp only [Nat.sub_self, List.getElem_cons_zero] at hk ⊢
      by_cases hl : l = []
      · have := (h2 ((state_next l).2 hl)).1
        omega
      · have hc := (h3 (fun e => hl ((state_next l).1 e))).2.2
        rw [state_cons hl] at hc
        unfold canS at hc
        simp [hk] at hc
        rw [prog_snoc hl]
        exact hc
theorem step_timer {x : StepS} (h : stepB x = true) (hk : x.kind = 2) : 1 ≤ x.wait ∧ x.wait ≤ 1000 := by
  unfold stepB at h
  rw [if_neg (by omega), if_pos hk] at h
  simp only [Bool.and_eq_true, inB_iff] at h
  exact h.2
theorem stepIs_iff {p : ProgS} {i k : Int} (h : stepIs p i k = true) : ∃ n : Nat, i = (n : Int) ∧ ∃ hn : n < p.steps.length, p.steps[n].kind = k ∧ stepAt p i = p.steps[n] := by
  by_cases hlo : i < 0 ∨ (p.steps.length : Int) ≤ i
  · rw [stepIs_not hlo] at h; cases h
  · obtain ⟨n, rfl⟩ := Int.eq_ofNat_of_zero_le (show 0 ≤ i by omega)
    have hn : n < p.steps.length := by omega
    rw [stepIs_at rfl hn] at h
    exact ⟨n, rfl, hn, of_decide_eq_true h, stepAt_at rfl hn⟩
theorem clkAt_val {l : List EvS} {i : Nat} (h : i < l.length) : clkAt l i = if l[i].kind = 10 ∧ endedH l ((i + 1 : Nat) : Int) 11 11 = false then some ⟨((i + 1 : Nat) : Int), l[i].step, l[i].tick + (stepAt (progH l) l[i].step).wait⟩ else none := by
  unfold clkAt
  rw [List.getElem?_eq_getElem h]

theorem run_steps (a : Option Addr) (n c : Nat) (lim : Int) (w : World) : (Instr.field 26 (.agg #[.slice a n c, .int .i64 lim]) 0).run Try.prog w = .ok (.slice a n c) w := by
  unfold Instr.field
  go_simp
  rfl
set_option maxHeartbeats 4000000 in
set_option maxRecDepth 100000 in
theorem rclocks_any {w : World} {v : Value} {l : List EvS} (h : ReadE w v l) (ho : OkH l) :
    Calls Try.prog 28 #[v] w fun e w' => ∃ v', e = .returned v' ∧ OwnR ClkS.cells 3 w.heap.size w' v' (clksH l) ∧ Below w.heap.size w w' := by
  obtain ⟨i0, hi0, hz0, hz1, hz2⟩ := info_parts infoClk
  have hb := ho.len
  have HST : Hid (∀ wx, Below w.heap.size w wx → Calls Try.prog 21 #[v] wx fun e w' => e = .returned (.int .i64 (statusH l : Nat)) ∧ wx = w') := fun wx t => (rstatus_any (h.below t)).mono fun e w' h => ⟨h.1, h.2.symm⟩
  have HEN : Hid (∀ wx (r : Int), Below w.heap.size w wx → Calls Try.prog 50 #[v, .int .i64 r, .int .i64 11, .int .i64 11] wx fun e w' => e = .returned (.bool (endedH l r 11 11)) ∧ wx = w') := fun wx r t => (rended_any (h.below t) r 11 11).mono fun e w' h => ⟨h.1, h.2.symm⟩
  have HPG : Hid (l ≠ [] → ∀ wx, Below w.heap.size w wx → Calls Try.prog 23 #[v] wx fun e w' => ∃ a c, e = .returned ((progH l).val' a c) ∧ ReadG w' (.slice a (progH l).steps.length c) (progH l).steps ∧ Below wx.heap.size wx w') := fun hl wx t => rprogram_any (h.below t) ho hl
  have HAR := Lib.hid ho.armed
  have HPB : Hid (l ≠ [] → progB (progH l) = true) := fun hl => ho.prog hl
  have HEV := Lib.hid ho.ev
  obtain ⟨va, vc, rfl⟩ := h.slice
  have H := Lib.hid h
  have HJ : Hid (clksH l = if statusH l = 0 then clksL l l.length else []) := rfl
  generalize statusH l = S at *
  generalize clksH l = JJ at *
  clear h ho
  go_enter Try.func28, Try.ntmps28
  go_wp2
  go_loopw [3, 4] (fun jv iv wr => ∃ i : Nat, i ≤ l.length ∧ (S ≠ 0 → i = 0) ∧ iv = .int .i64 (i : Int) ∧ Hid (wr.ownsRow 0 51 3 jv (clksL l i).length (rowR ClkS.cells (clksL l i)) ∧ (∀ k, jv.ownBlock = some k → w.heap.size ≤ k) ∧ Below w.heap.size w wr)) (fun _ iv _ => l.length - (intOf iv).toNat)
  case atStart => exact ⟨0, Nat.zero_le _, fun _ => rfl, rfl, World.ownsRow_nil _ _ _ _, fun k hk => by simp [Value.ownBlock] at hk, Below.refl _ _⟩
  case round =>
    obtain ⟨i, hi, hs0, rfl, HI⟩ := hrel
    by_cases hlt : i < l.length
    · by_cases hS : S = 0
      · subst hS
        have hlt2 : (i : Int) < (l.length : Int) := by omega
        go_wp2_with fail
        refine (HST.out _ HI.out.2.2).mono ?_
        rintro e w1 ⟨rfl, rfl⟩
        have hne : l ≠ [] := fun e => by subst e; simp at hlt
        obtain ⟨b, o, rfl, q0, q1, q2, q3, q4, q5, q6, q7, -⟩ := (H.out.below HI.out.2.2).at hlt
        have HCE : Hid (∀ w', Below w.heap.size w w' → w'.cell? ⟨b, o + i * 8 + 4, none⟩ = some (.int .i64 l[i].step) ∧ w'.cell? ⟨b, o + i * 8 + 2, none⟩ = some (.int .i64 l[i].tick)) := fun w' t => by
          obtain ⟨b2, o2, hb2, p0, p1, p2, p3, p4, p5, p6, p7, -⟩ := (H.out.below t).at hlt
          injection hb2 with hb2
          injection hb2 with e1 e2
          subst e1 e2
          exact ⟨p4, p2⟩
        have HV := Lib.hid (clkAt_val hlt)
        have HAI := Lib.hid (HAR.out i hlt)
        have HTK := ((evB_iff _).1 (HEV.out i hlt).2).tick
        have HNX := Lib.hid (clksL_next l i)
        have hmes : l.length - (intOf (.int .i64 ((i : Int) + 1))).toNat < l.length - (intOf (.int .i64 (i : Int))).toNat := by simp [intOf]; omega
        have hio : IntKind.i64.wrap ((i : Int) + 1) = ((i + 1 : Nat) : Int) := by rw [IntWalk.i64_in _ ⟨by omega, by omega⟩]; omega
        have HPC := Lib.hid (HPG.out hne)
        have HPP := Lib.hid (HPB.out hne)
        clear HPG HPB hne HAR HEV
        generalize l[i] = x at *
        have HNO : Hid (¬ (x.kind = 10 ∧ endedH l ((i + 1 : Nat) : Int) 11 11 = false) → clksL l (i + 1) = clksL l i) := fun hn => by
          rw [HNX.out, HV.out, if_neg hn]; simp
        by_cases h6 : x.kind = 10
        · have HEC := Lib.hid (HEN.out wr ((i + 1 : Nat) : Int) HI.out.2.2)
          cases hE : endedH l ((i + 1 : Nat) : Int) 11 11 with
          | true =>
            have HQ : Hid (clksL l (i + 1) = clksL l i) := HNO.out (fun h => by rw [hE] at h; cases h.2)
            rw [hE] at HEC
            have g6 : (x.kind == 10) = true := by simp [h6]
            clear h6 hE HV
            go_wp2_with fail
            refine HEC.out.mono ?_
            rintro e w1 ⟨rfl, rfl⟩
            clear hio
            go_wp2
            go_roundw
            case rel => exact ⟨i + 1, by omega, fun h => (h rfl).elim, by go_num, by rw [HQ.out]; exact HI.out⟩
            case measure => exact hmes
          | false =>
            have hsi := HAI.out h6
            obtain ⟨n, hxs, hn, hkn, hsa⟩ := stepIs_iff hsi
            have hwt := step_timer (List.all_eq_true.1 (progB_parts HPP.out).2.2.2 _ (List.getElem_mem hn)) hkn
            have HQ : Hid (clksL l (i + 1) = clksL l i ++ [⟨((i + 1 : Nat) : Int), x.step, x.tick + (progH l).steps[n].wait⟩]) := by
              show _ = _
              rw [HNX.out, HV.out, if_pos ⟨h6, hE⟩, hsa]; simp
            rw [hE] at HEC
            have g6 : (x.kind == 10) = true := by simp [h6]
            generalize progH l = P at *
            have HRG : Hid (∀ w' a c, ReadG w' (.slice a P.steps.length c) P.steps → ∃ b o, a = some ⟨b, o, none⟩ ∧ w'.cell? ⟨b, o + n * 6 + 5, none⟩ = some (.int .i64 P.steps[n].wait)) := fun w' a c t => by
              obtain ⟨b, o, rfl, -, -, -, -, -, q, -, -⟩ := t.at hn
              exact ⟨b, o, rfl, q⟩
            generalize P.steps[n] = y at *
            clear h6 hE HV hsi hsa HAI hkn HPP
            unfold ProgS.val' at HPC
            go_wp2_with fail
            refine HEC.out.mono ?_
            rintro e w1 ⟨rfl, rfl⟩
            rw [hxs] at HCE HQ q4
            have hn1 : (n : Int) < (P.steps.length : Int) := by omega
            have hn0 : (0 : Int) ≤ (n : Int) := by omega
            have ht1 : IntKind.i64.wrap (x.tick + y.wait) = x.tick + y.wait := IntWalk.i64_in _ ⟨by omega, by omega⟩
            obtain ⟨ja, jc, rfl⟩ := row_slice12 HI.out.1
            have hJL := clksL_len l i
            obtain ⟨jl, hjl⟩ : ∃ jl, clksL l i = jl := ⟨_, rfl⟩
            rw [hjl] at hJL HI HQ HNO
            clear HNX HNO hxs
            have hfl := run_steps
            go_upto_region 6 with (fail)
            refine wp_region_held_drew (S := fun w' => w'.cell? ⟨b, o + i * 8 + 4, none⟩ = some (.int .i64 (n : Int)) ∧ w'.cell? ⟨b, o + i * 8 + 2, none⟩ = some (.int .i64 x.tick)) (by kernel_rfl) (HCE.out _ HI.out.2.2.drew) (fun hHeld => ?_)
            refine wpAnyH_take (i := 0) (v := ?_) rfl (by kernel_rfl) (by kernel_rfl) (by kernel_rfl) (fun _ _ _ h => h) (Or.inl ⟨by rfl, ?_⟩) (by assumption) ?_
            rotate_left
            · intro w hSw; (try dsimp only at hSw); go_simp; (try with_reducible rfl)
            try simp only [Act.put, List.setIfInBounds_toArray]
            refine wpAnyH_take (i := 1) (v := ?_) rfl (by kernel_rfl) (by kernel_rfl) (by kernel_rfl) (fun _ _ _ h => h) (Or.inl ⟨by rfl, ?_⟩) (by assumption) ?_
            rotate_left
            · intro w hSw; (try dsimp only at hSw); go_simp; (try with_reducible rfl)
            try simp only [Act.put]
            refine wpAnyH_take (i := 2) (v := ?_) rfl (by kernel_rfl) (by kernel_rfl) (by kernel_rfl) (fun _ _ _ h => h) (Or.inl ⟨by rfl, ?_⟩) (by assumption) ?_
            rotate_left
            · intro w hSw; (try dsimp only at hSw); go_simp; (try with_reducible rfl)
            try simp only [Act.put]
            refine wpAnyH_take (i := 3) (v := ?_) rfl (by kernel_rfl) (by kernel_rfl) (by kernel_rfl) (fun _ _ _ h => h) (Or.inl ⟨by rfl, ?_⟩) (by assumption) ?_
            rotate_left
            · intro w hSw; (try dsimp only at hSw); go_simp; (try with_reducible rfl)
            try simp only [Act.put]
            refine wpAnyH_take (i := 4) (v := ?_) rfl (by kernel_rfl) (by kernel_rfl) (by kernel_rfl) (fun _ _ _ h => h) (Or.inl ⟨by rfl, ?_⟩) (by assumption) ?_
            rotate_left
            · intro w hSw; (try dsimp only at hSw); go_simp; (try with_reducible rfl)
            try simp only [Act.put]
            refine wpAnyH_take (i := 5) (v := ?_) rfl (by kernel_rfl) (by kernel_rfl) (by kernel_rfl) (fun _ _ _ h => h) (Or.inl ⟨by rfl, ?_⟩) (by assumption) ?_
            rotate_left
            · intro w hSw; (try dsimp only at hSw); go_simp; (try with_reducible rfl)
            try simp only [Act.put]
            refine wpAnyH_take (i := 6) (v := ?_) rfl (by kernel_rfl) (by kernel_rfl) (by kernel_rfl) (fun _ _ _ h => h) (Or.inl ⟨by rfl, ?_⟩) (by assumption) ?_
            rotate_left
            · intro w hSw; (try dsimp only at hSw); go_simp; (try with_reducible rfl)
            try simp only [Act.put]
            refine wpAnyH_take (i := 7) (v := ?_) rfl (by kernel_rfl) (by kernel_rfl) (by kernel_rfl) (fun _ _ _ h => h) (Or.inl ⟨by rfl, ?_⟩) (by assumption) ?_
            rotate_left
            · intro w hSw; (try dsimp only at hSw); go_simp; (try with_reducible rfl)
            try simp only [Act.put]
            refine wpAnyH_take (i := 8) (v := ?_) rfl (by kernel_rfl) (by kernel_rfl) (by kernel_rfl) (fun _ _ _ h => h) (Or.inl ⟨by rfl, ?_⟩) (by assumption) ?_
            rotate_left
            · intro w hSw; (try dsimp only at hSw); go_simp; (try with_reducible rfl)
            try simp only [Act.put]
            refine wpAnyH_take (i := 9) (v := ?_) rfl (by kernel_rfl) (by kernel_rfl) (by kernel_rfl) (fun _ _ _ h => h) (Or.inl ⟨by rfl, ?_⟩) (by assumption) ?_
            rotate_left
            · intro w hSw; (try dsimp only at hSw); go_simp; (try with_reducible rfl)
            try simp only [Act.put]
            refine wpAnyH_take (i := 10) (v := ?_) rfl (by kernel_rfl) (by kernel_rfl) (by kernel_rfl) (fun _ _ _ h => h) (Or.inl ⟨by rfl, ?_⟩) (by assumption) ?_
            rotate_left
            · intro w hSw; (try dsimp only at hSw); go_simp; (try with_reducible rfl)
            try simp only [Act.put]
            refine wpAnyH_take (i := 11) (v := ?_) rfl (by kernel_rfl) (by kernel_rfl) (by kernel_rfl) (fun _ _ _ h => h) (Or.inl ⟨by rfl, ?_⟩) (by assumption) ?_
            rotate_left
            · intro w hSw; (try dsimp only at hSw); go_simp; (try with_reducible rfl)
            try simp only [Act.put]
            refine wpAnyH_take (i := 12) (v := ?_) rfl (by kernel_rfl) (by kernel_rfl) (by kernel_rfl) (fun _ _ _ h => h) (Or.inl ⟨by rfl, ?_⟩) (by assumption) ?_
            rotate_left
            · intro w hSw; (try dsimp only at hSw); go_simp; (try with_reducible rfl)
            try simp only [Act.put]
            refine wpAnyH_take (i := 13) (v := ?_) rfl (by kernel_rfl) (by kernel_rfl) (by kernel_rfl) (fun _ _ _ h => h) (Or.inl ⟨by rfl, ?_⟩) (by assumption) ?_
            rotate_left
            · intro w hSw; (try dsimp only at hSw); go_simp; (try with_reducible rfl)
            try simp only [Act.put]
            refine wpAnyH_take (i := 16) (v := ?_) rfl (by kernel_rfl) (by kernel_rfl) (by kernel_rfl) (fun _ _ _ h => h) (Or.inl ⟨by rfl, ?_⟩) (by assumption) ?_
            rotate_left
            · intro w hSw; (try dsimp only at hSw); go_simp; (try with_reducible rfl)
            try simp only [Act.put]
            refine wpAnyH_take (i := 17) (v := ?_) rfl (by kernel_rfl) (by kernel_rfl) (by kernel_rfl) (fun _ _ _ h => h) (Or.inl ⟨by rfl, ?_⟩) (by assumption) ?_
            rotate_left
            · intro w hSw; (try dsimp only at hSw); go_simp; (try with_reducible rfl)
            try simp only [Act.put]
            refine wpAnyH_take (i := 18) (v := ?_) rfl (by kernel_rfl) (by kernel_rfl) (by kernel_rfl) (fun _ _ _ h => h) (Or.inl ⟨by rfl, ?_⟩) (by assumption) ?_
            rotate_left
            · intro w hSw; (try dsimp only at hSw); go_simp; (try with_reducible rfl)
            try simp only [Act.put]
            refine wpAnyH_take (i := 19) (v := ?_) rfl (by kernel_rfl) (by kernel_rfl) (by kernel_rfl) (fun _ _ _ h => h) (Or.inl ⟨by rfl, ?_⟩) (by assumption) ?_
            rotate_left
            · intro w hSw; (try dsimp only at hSw); go_simp; (try with_reducible rfl)
            try simp only [Act.put]
            refine wpAnyH_take (i := 20) (v := ?_) rfl (by kernel_rfl) (by kernel_rfl) (by kernel_rfl) (fun _ _ _ h => h) (Or.inl ⟨by rfl, ?_⟩) (by assumption) ?_
            rotate_left
            · intro w hSw; (try dsimp only at hSw); go_simp; (try with_reducible rfl)
            try simp only [Act.put]
            refine wpAnyH_ready (rs := [14]) (by kernel_rfl) (by simp) ?_
            refine AllReadyH.cons rfl (fun K hK => ?_) AllReadyH.nil
            go_simp
            go_at_call 23
            refine (HPC.out _ HI.out.2.2.drew).mono ?_
            rintro e w5 ⟨pa, pc, rfl, r5, b5⟩
            dsimp only
            obtain ⟨pb, po, rfl, y5⟩ := HRG.out _ _ _ r5
            have B5 : Hid (Below w.heap.size w w5) := below_next HI.out.2.2 (Nat.le_refl _) (below_undrew b5)
            have B5w := Lib.hid (below_undrew b5)
            clear r5 b5
            refine hK.out _ _ (HCE.out _ B5.out) (fun _ => ?_)
            clear hK K hHeld
            have hHeld : (fun w' : World => w'.cell? ⟨b, o + i * 8 + 4, none⟩ = some (.int .i64 (n : Int)) ∧ w'.cell? ⟨b, o + i * 8 + 2, none⟩ = some (.int .i64 x.tick)) w5 := HCE.out _ B5.out
            try simp only [Act.put, List.setIfInBounds_toArray, List.set_cons_zero, List.set_cons_succ]
            refine wpAnyH_take (i := 15) (v := ?_) rfl (by kernel_rfl) (by kernel_rfl) (by kernel_rfl) (fun _ _ _ h => h) (Or.inl ⟨by rfl, ?_⟩) (by assumption) ?_
            rotate_left
            · intro w hSw; (try dsimp only at hSw); go_simp; (try with_reducible rfl)
            try simp only [Act.put, List.setIfInBounds_toArray]
            refine wpAnyH_take (i := 21) (v := ?_) rfl (by kernel_rfl) (by kernel_rfl) (by kernel_rfl) (fun _ _ _ h => h) (Or.inl ⟨by rfl, ?_⟩) (by assumption) ?_
            rotate_left
            · intro w hSw; (try dsimp only at hSw); go_simp; (try with_reducible rfl)
            try simp only [Act.put]
            refine wpAnyH_take (i := 22) (v := ?_) rfl (by kernel_rfl) (by kernel_rfl) (by kernel_rfl) (fun _ _ _ h => h) (Or.inl ⟨by rfl, ?_⟩) (by assumption) ?_
            rotate_left
            · intro w hSw; (try dsimp only at hSw); go_simp; (try with_reducible rfl)
            try simp only [Act.put]
            refine wpAnyH_ready (rs := [23]) (by kernel_rfl) (by simp) ?_
            refine AllReadyH.cons rfl (fun K hK => ?_) AllReadyH.nil
            go_simp
            refine hK.out _ _ (HCE.out _ B5.out) (fun _ => ?_)
            clear hK K
            try simp only [Act.put, List.setIfInBounds_toArray, List.set_cons_zero, List.set_cons_succ]
            refine wpAnyH_take (i := 24) (v := ?_) rfl (by kernel_rfl) (by kernel_rfl) (by kernel_rfl) (fun _ _ _ h => h) (Or.inl ⟨by rfl, ?_⟩) (by assumption) ?_
            rotate_left
            · intro w hSw; (try dsimp only at hSw); go_simp; (try with_reducible rfl)
            try simp only [Act.put, List.setIfInBounds_toArray]
            refine wpAnyH_take (i := 25) (v := ?_) rfl (by kernel_rfl) (by kernel_rfl) (by kernel_rfl) (fun _ _ _ h => h) (Or.inl ⟨by rfl, ?_⟩) (by assumption) ?_
            rotate_left
            · intro w hSw; (try dsimp only at hSw); go_simp; (try with_reducible rfl)
            try simp only [Act.put]
            refine wpAnyH_ready (rs := [26]) (by kernel_rfl) (by simp) ?_
            refine AllReadyH.cons rfl (fun K hK => ?_) AllReadyH.nil
            go_simp
            have hB6 := B5.out.alloc B5.out.size (.cells #[.int .i64 ((i + 1 : Nat) : Int), .int .i64 (n : Int), .int .i64 (x.tick + y.wait)] 51)
            have hBw : Below w5.heap.size w5 (w5.alloc (.cells #[.int .i64 ((i + 1 : Nat) : Int), .int .i64 (n : Int), .int .i64 (x.tick + y.wait)] 51)) := (Below.refl _ _).alloc (Nat.le_refl _) _
            refine hK.out _ _ (HCE.out _ hB6) (fun _ => ?_)
            clear hK K hHeld
            try simp only [Act.put, List.setIfInBounds_toArray, List.set_cons_zero, List.set_cons_succ]
            refine wpAnyH_ready (rs := [27]) (by kernel_rfl) (by simp) ?_
            refine AllReadyH.cons rfl (fun K hK => ?_) AllReadyH.nil
            refine step_app (w5.alloc (.cells #[.int .i64 ((i + 1 : Nat) : Int), .int .i64 (n : Int), .int .i64 (x.tick + y.wait)] 51)) (T := 28) (E := 51) (i := i0) (z := .agg #[.int .i64 0, .int .i64 0, .int .i64 0]) (sz := 3) (bytes := 24) (v := .slice ja jl.length jc) (n := jl.length) (xs := rowR ClkS.cells jl) (m := 1) (news := ClkS.cells ⟨((i + 1 : Nat) : Int), (n : Int), x.tick + y.wait⟩) (by rfl) (.tmp 29) (.tmp 55) (by rfl) Try.underlying28 hi0 hz0 hz1 hz2 rfl (by decide) (by rfl) (ownsRow_below (ownsRow_below HI.out.1 B5w.out) hBw) (by rfl) (src_new (sz := 3) w5 #[.int .i64 ((i + 1 : Nat) : Int), .int .i64 (n : Int), .int .i64 (x.tick + y.wait)] 51 rfl (ClkS.one ⟨((i + 1 : Nat) : Int), (n : Int), x.tick + y.wait⟩)) (by omega) (by unfold maxLen; omega) ?_
            intro b6 c6 w6 own6 g6 l6
            have B6 : Hid (Below w.heap.size w w6) := hB6.grown g6 hB6.size (fun k hk => HI.out.2.1 k hk)
            have HO6 := Lib.hid own6
            have HL6 := Lib.hid l6
            have B5s := Lib.hid hB6.size
            clear own6 g6 l6 hB6 hBw
            refine hK.out _ _ (HCE.out _ B6.out) (fun hHeld => ?_)
            clear hK K
            try simp only [Act.put, List.setIfInBounds_toArray]
            refine wpAnyH_take (i := 28) (v := ?_) rfl (by kernel_rfl) (by kernel_rfl) (by kernel_rfl) (fun _ _ _ h => h) (Or.inl ⟨by rfl, ?_⟩) (by assumption) ?_
            rotate_left
            · intro w hSw; (try dsimp only at hSw); go_simp; (try with_reducible rfl)
            try simp only [Act.put]
            refine wpAnyH_done (by kernel_rfl) ?_ _
            clear hHeld
            have HN : Hid (w6.ownsRow 0 51 3 (.slice b6 (jl.length + 1) c6) (clksL l (i + 1)).length (rowR ClkS.cells (clksL l (i + 1))) ∧ (∀ k, (Value.slice b6 (jl.length + 1) c6).ownBlock = some k → w.heap.size ≤ k) ∧ Below w.heap.size w w6) := by
              refine ⟨?_, fun k hk => ?_, B6.out⟩
              · rw [HQ.out, List.length_append, rowR_snoc]
                exact HO6.out
              · rcases HL6.out k hk with e | e
                · exact HI.out.2.1 k e
                · exact Nat.le_trans B5s.out e
            clear hio q0 q1 q2 q3 q4 q5 q6 q7 y5
            go_wp2
            go_roundw
            case rel => exact ⟨i + 1, by omega, fun h => (h rfl).elim, by go_num, HN.out⟩
            case measure => exact hmes
        · have HQ : Hid (clksL l (i + 1) = clksL l i) := HNO.out (fun h => h6 h.1)
          have g6 : (x.kind == 10) = false := by simp [h6]
          clear h6 HV hio
          go_wp2
          go_roundw
          case rel => exact ⟨i + 1, by omega, fun h => (h rfl).elim, by go_num, by rw [HQ.out]; exact HI.out⟩
          case measure => exact hmes
      · have := hs0 hS
        subst this
        have HF : Hid (JJ = clksL l 0) := by show _ = _; rw [HJ.out, if_neg hS]; rfl
        have gS : ((S : Int) == 0) = false := by rw [beq_eq_false_iff_ne]; omega
        have hlt2 : (0 : Int) < (l.length : Int) := by omega
        clear hS
        go_wp2_with fail
        refine (HST.out _ HI.out.2.2).mono ?_
        rintro e w1 ⟨rfl, rfl⟩
        go_wp2
        go_ret
        exact ⟨_, rfl, by rw [HF.out]; exact OwnR.of ClkS.len HI.out.1 HI.out.2.1, HI.out.2.2⟩
    · obtain rfl : i = l.length := by omega
      have hlt2 : ¬ (l.length : Int) < (l.length : Int) := by omega
      have HF : Hid (JJ = clksL l l.length) := by
        show _ = _
        rw [HJ.out]
        by_cases hS : S = 0
        · rw [if_pos hS]
        · rw [if_neg hS, hs0 hS]
          rfl
      go_wp2
      go_ret
      exact ⟨_, rfl, by rw [HF.out]; exact OwnR.of ClkS.len HI.out.1 HI.out.2.1, HI.out.2.2⟩
end Go.Proofs.Ytlkfpeefjpmmfaa

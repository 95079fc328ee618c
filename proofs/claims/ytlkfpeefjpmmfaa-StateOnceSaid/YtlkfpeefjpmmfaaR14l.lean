/- Layer 14: the contract of the reference's Same. -/
import Derived.Test.YtlkfpeefjpmmfaaR14k
namespace Go.Proofs.Ytlkfpeefjpmmfaa
open Go.RowKit
set_option linter.unusedVariables false

set_option maxRecDepth 100000 in
set_option maxHeartbeats 1000000 in
theorem job_equal (x y : JobS) (w : World) : (Op.equal 49 x.val' y.val').run Try.prog w = .ok (decide (x = y)) w := by
  obtain ⟨k1, n1, u1, t1⟩ := x
  obtain ⟨k2, n2, u2, t2⟩ := y
  show (Op.equalIn (9999 + 1) 49 _ _).run Try.prog w = _
  unfold JobS.val'
  rw [run_equalIn_struct w 9999 49 _ _ (by kernel_rfl) (by kernel_rfl)]
  go_simp
  by_cases h1 : k1 = k2
  · by_cases h2 : n1 = n2
    · by_cases h3 : u1 = u2
      · by_cases h4 : t1 = t2 <;> simp [h1, h2, h3, h4]
      · simp [h1, h2, h3]
    · simp [h1, h2]
  · simp [h1]
theorem job_neq (x y : JobS) (w : World) : (binOp BinOp.neq 49 x.val' y.val').run Try.prog w = .ok (.bool (!decide (x = y))) w := by
  have h := job_equal x y w
  unfold JobS.val' at h ⊢
  simp only [binOp]
  simp only [Sem.run_bind, h]
  rfl
set_option maxRecDepth 100000 in
set_option maxHeartbeats 1000000 in
theorem clk_equal (x y : ClkS) (w : World) : (Op.equal 51 x.val' y.val').run Try.prog w = .ok (decide (x = y)) w := by
  obtain ⟨k1, n1, u1⟩ := x
  obtain ⟨k2, n2, u2⟩ := y
  show (Op.equalIn (9999 + 1) 51 _ _).run Try.prog w = _
  unfold ClkS.val'
  rw [run_equalIn_struct w 9999 51 _ _ (by kernel_rfl) (by kernel_rfl)]
  go_simp
  by_cases h1 : k1 = k2
  · by_cases h2 : n1 = n2
    · by_cases h3 : u1 = u2 <;> simp [h1, h2, h3]
    · simp [h1, h2]
  · simp [h1]
theorem clk_neq (x y : ClkS) (w : World) : (binOp BinOp.neq 51 x.val' y.val').run Try.prog w = .ok (.bool (!decide (x = y))) w := by
  have h := clk_equal x y w
  unfold ClkS.val' at h ⊢
  simp only [binOp]
  simp only [Sem.run_bind, h]
  rfl

/-- Are two states' plain fields the same? -/
def plainSt (s t : StS) : Bool := (s.status == t.status) && ((s.next == t.next) && ((s.began == t.began) && ((s.asked == t.asked) && ((s.taken == t.taken) && ((s.fresh == t.fresh) && ((s.cancel == t.cancel) && (s.overdue == t.overdue)))))))
def sameSt (s t : StS) : Bool := sameG s.prog t.prog && decide (s.jobs = t.jobs) && decide (s.clocks = t.clocks) && plainSt s t
theorem sameSt_iff (s t : StS) : sameSt s t = true ↔ s = t := by
  obtain ⟨p, a1, a2, a3, a4, a5, a6, j, c, a7, a8⟩ := s
  obtain ⟨q, b1, b2, b3, b4, b5, b6, k, d, b7, b8⟩ := t
  unfold sameSt plainSt
  simp only [Bool.and_eq_true, decide_eq_true_eq, beq_iff_eq, sameG_iff, StS.mk.injEq]
  constructor
  · rintro ⟨⟨⟨h1, h2⟩, h3⟩, h4, h5, h6, h7, h8, h9, h10, h11⟩
    exact ⟨h1, h4, h5, h6, h7, h8, h9, h2, h3, h10, h11⟩
  · rintro ⟨h1, h4, h5, h6, h7, h8, h9, h2, h3, h10, h11⟩
    exact ⟨⟨⟨h1, h2⟩, h3⟩, h4, h5, h6, h7, h8, h9, h10, h11⟩
theorem sameSt_refl (s : StS) : sameSt s s = true := (sameSt_iff s s).2 rfl

set_option maxHeartbeats 8000000 in
set_option maxRecDepth 100000 in
theorem rsame14_any {w : World} {g j c g' j' c' : Value} (S T : StS) (h : ReadSt w g j c S) (h' : ReadSt w g' j' c' T) :
    Calls Try.prog 11 #[S.val' g j c, T.val' g' j' c'] w fun x w' => x = .returned (.bool (sameSt S T)) ∧ Below w.heap.size w w' := by
  obtain ⟨ga, gc, rfl⟩ := h.g.slice
  obtain ⟨ja, jc, rfl⟩ := h.j.slice
  obtain ⟨ca, cc, rfl⟩ := h.c.slice
  obtain ⟨ga', gc', rfl⟩ := h'.g.slice
  obtain ⟨ja', jc', rfl⟩ := h'.j.slice
  obtain ⟨ca', cc', rfl⟩ := h'.c.slice
  have HSM : Hid (sameSt S T = (sameG S.prog T.prog && decide (S.jobs = T.jobs) && decide (S.clocks = T.clocks) && plainSt S T)) := rfl
  have HPL : Hid (plainSt S T = ((S.status == T.status) && ((S.next == T.next) && ((S.began == T.began) && ((S.asked == T.asked) && ((S.taken == T.taken) && ((S.fresh == T.fresh) && ((S.cancel == T.cancel) && (S.overdue == T.overdue))))))))) := rfl
  generalize sameSt S T = SM at *
  generalize plainSt S T = PL at *
  obtain ⟨w1, hw1⟩ : ∃ w1, w.alloc (.cells #[.slice ga S.prog.steps.length gc, .int .i64 S.prog.limit, .int .i64 S.status, .int .i64 S.next, .int .i64 S.began, .int .i64 S.asked, .int .i64 S.taken, .bool S.fresh, .slice ja S.jobs.length jc, .slice ca S.clocks.length cc, .bool S.cancel, .bool S.overdue] 30) = w1 := ⟨_, rfl⟩
  obtain ⟨w2, hw2⟩ : ∃ w2, w1.alloc (.cells #[.slice ga' T.prog.steps.length gc', .int .i64 T.prog.limit, .int .i64 T.status, .int .i64 T.next, .int .i64 T.began, .int .i64 T.asked, .int .i64 T.taken, .bool T.fresh, .slice ja' T.jobs.length jc', .slice ca' T.clocks.length cc', .bool T.cancel, .bool T.overdue] 30) = w2 := ⟨_, rfl⟩
  have hs1 : w1.heap.size = w.heap.size + 1 := by rw [← hw1]; simp
  have hb01 : Below w.heap.size w w1 := by rw [← hw1]; exact (Below.refl _ w).alloc (Nat.le_refl _) _
  have hb12 : Below w1.heap.size w1 w2 := by rw [← hw2]; exact (Below.refl _ w1).alloc (Nat.le_refl _) _
  have hb0 : Below w.heap.size w w2 := hb01.trans (hb12.mono hb01.size)
  have hn1 : w2.heap[w.heap.size]? = some (.cells #[.slice ga S.prog.steps.length gc, .int .i64 S.prog.limit, .int .i64 S.status, .int .i64 S.next, .int .i64 S.began, .int .i64 S.asked, .int .i64 S.taken, .bool S.fresh, .slice ja S.jobs.length jc, .slice ca S.clocks.length cc, .bool S.cancel, .bool S.overdue] 30 (0, 0)) := by
    rw [hb12.block _ (by omega), ← hw1]; exact heap_alloc_new _ _
  have hn2 : w2.heap[w1.heap.size]? = some (.cells #[.slice ga' T.prog.steps.length gc', .int .i64 T.prog.limit, .int .i64 T.status, .int .i64 T.next, .int .i64 T.began, .int .i64 T.asked, .int .i64 T.taken, .bool T.fresh, .slice ja' T.jobs.length jc', .slice ca' T.clocks.length cc', .bool T.cancel, .bool T.overdue] 30 (0, 0)) := by
    rw [← hw2]; exact heap_alloc_new _ _
  have HB := Lib.hid hb0
  have HR := Lib.hid (h.below hb0)
  have HR' := Lib.hid (h'.below hb0)
  have HS : Hid (∀ wx, Below w2.heap.size w2 wx → wx.heap[w.heap.size]? = some (.cells #[.slice ga S.prog.steps.length gc, .int .i64 S.prog.limit, .int .i64 S.status, .int .i64 S.next, .int .i64 S.began, .int .i64 S.asked, .int .i64 S.taken, .bool S.fresh, .slice ja S.jobs.length jc, .slice ca S.clocks.length cc, .bool S.cancel, .bool S.overdue] 30 (0, 0)) ∧ wx.heap[w1.heap.size]? = some (.cells #[.slice ga' T.prog.steps.length gc', .int .i64 T.prog.limit, .int .i64 T.status, .int .i64 T.next, .int .i64 T.began, .int .i64 T.asked, .int .i64 T.taken, .bool T.fresh, .slice ja' T.jobs.length jc', .slice ca' T.clocks.length cc', .bool T.cancel, .bool T.overdue] 30 (0, 0))) := fun wx t => ⟨(t.block _ (block_lt hn1)).trans hn1, (t.block _ (block_lt hn2)).trans hn2⟩
  have HSG := Lib.hid (rsame12_any S.prog T.prog (w := w2) HR.out.g HR'.out.g)
  unfold ProgS.val' at HSG
  unfold StS.val'
  have a0 := (block_cell hn1 0).trans rfl
  have a1 := (block_cell hn1 1).trans rfl
  have e0 := (block_cell hn2 0).trans rfl
  have e1 := (block_cell hn2 1).trans rfl
  clear hs1 hb01 hb12 hb0 hn1 hn2 h h'
  have hjl : S.jobs.length ≤ 9223372036854775807 := by have := HR.out.j.1; unfold maxLen at this; omega
  have hcl : S.clocks.length ≤ 9223372036854775807 := by have := HR.out.c.1; unfold maxLen at this; omega
  go_enter Try.func11, Try.ntmps11
  go_wp2_with fail
  refine HSG.out.mono ?_
  rintro x w3 ⟨rfl, b3⟩
  have B3 := Lib.hid b3
  clear a0 a1 e0 e1 b3 hw1 hw2 HSG
  have HBW : Hid (∀ wx, Below w2.heap.size w2 wx → Below w.heap.size w wx) := fun wx t => HB.out.trans (t.mono HB.out.size)
  generalize w1.heap.size = qb at *
  generalize sameG S.prog T.prog = SG at *
  cases SG with
  | false =>
    have HF : Hid (SM = false) := by show _ = _; rw [HSM.out]; simp
    go_wp2
    go_ret
    exact ⟨by rw [HF.out]; rfl, HBW.out _ B3.out⟩
  | true =>
    obtain ⟨hS, hT⟩ := HS.out w3 B3.out
    have s8 := (block_cell hS 8).trans rfl
    have t8 := (block_cell hT 8).trans rfl
    have s9 := (block_cell hS 9).trans rfl
    have t9 := (block_cell hT 9).trans rfl
    clear hS hT
    by_cases hj : S.jobs.length = T.jobs.length
    · by_cases hc : S.clocks.length = T.clocks.length
      · have gj : ((S.jobs.length : Int) != (T.jobs.length : Int)) = false := by simp [hj]
        have gc : ((S.clocks.length : Int) != (T.clocks.length : Int)) = false := by simp [hc]
        have HJL : Hid (S.jobs.length = T.jobs.length ∧ S.clocks.length = T.clocks.length) := ⟨hj, hc⟩
        clear hj hc
        go_wp2
        clear s8 t8 s9 t9 gj gc
        go_loopw [5] (fun iv wr => ∃ i : Nat, i ≤ S.jobs.length ∧ iv = .int .i64 (i : Int) ∧ Hid (S.jobs.take i = T.jobs.take i) ∧ Hid (Below w2.heap.size w2 wr)) (fun iv _ => S.jobs.length - (intOf iv).toNat)
        case atStart => exact ⟨0, Nat.zero_le _, rfl, rfl, B3.out⟩
        case round =>
          obtain ⟨i, hi, rfl, HA, HW⟩ := hrel
          obtain ⟨hS, hT⟩ := HS.out wr HW.out
          have s8 := (block_cell hS 8).trans rfl
          have t8 := (block_cell hT 8).trans rfl
          clear hS hT
          by_cases hlt : i < S.jobs.length
          · have hlt' : i < T.jobs.length := by have := HJL.out; omega
            have hi1 : (0 : Int) ≤ (i : Int) := Int.natCast_nonneg _
            have hi2 : (i : Int) < (S.jobs.length : Int) := by omega
            have hi3 : (i : Int) < (T.jobs.length : Int) := by omega
            obtain ⟨b, o, rfl, q0, q1, q2, q3⟩ := (HR.out.j.below HW.out).job hlt
            obtain ⟨b', o', rfl, p0, p1, p2, p3⟩ := (HR'.out.j.below HW.out).job hlt'
            have HT : Hid (S.jobs[i] = T.jobs[i] → S.jobs.take (i + 1) = T.jobs.take (i + 1)) := fun e => by
              rw [List.take_succ_eq_append_getElem hlt, List.take_succ_eq_append_getElem hlt', HA.out, e]
            have HN : Hid (S.jobs[i] ≠ T.jobs[i] → SM = false) := fun e => by
              have hd : decide (S.jobs = T.jobs) = false := decide_eq_false (fun e2 => e (by simp only [e2]))
              rw [HSM.out, hd]; simp
            have hmes : S.jobs.length - (intOf (.int .i64 ((i : Int) + 1))).toNat < S.jobs.length - (intOf (.int .i64 (i : Int))).toNat := by simp [intOf]; omega
            generalize S.jobs[i] = x at *
            generalize T.jobs[i] = y at *
            have hne := job_neq x y
            unfold JobS.val' at hne
            by_cases hxy : x = y
            · have hd : decide (x = y) = true := decide_eq_true hxy
              rw [hd] at hne
              have HT2 := Lib.hid (HT.out hxy)
              clear hd hxy
              go_wp2
              go_quiet (fail)
              have HW3 := Lib.hid (below_drewN HW.out nq)
              go_wp2
              go_roundw
              case rel => exact ⟨i + 1, by omega, by go_num, HT2.out, HW3.out⟩
              case measure => exact hmes
            · have hd : decide (x = y) = false := decide_eq_false hxy
              rw [hd] at hne
              have HT2 := Lib.hid (HN.out hxy)
              clear hd hxy
              go_wp2
              go_quiet (fail)
              have HW3 := Lib.hid (below_drewN HW.out nq)
              go_wp2
              go_ret
              exact ⟨by rw [HT2.out]; rfl, HBW.out _ HW3.out⟩
          · obtain rfl : i = S.jobs.length := by omega
            have HJE : Hid (S.jobs = T.jobs) := by have := HA.out; rwa [List.take_length, HJL.out.1, List.take_length] at this
            have hll : ¬ (S.jobs.length : Int) < (S.jobs.length : Int) := by omega
            go_wp2
            clear s8 t8
            go_loopw [6] (fun iv wr => ∃ i : Nat, i ≤ S.clocks.length ∧ iv = .int .i64 (i : Int) ∧ Hid (S.clocks.take i = T.clocks.take i) ∧ Hid (Below w2.heap.size w2 wr)) (fun iv _ => S.clocks.length - (intOf iv).toNat)
            case atStart => exact ⟨0, Nat.zero_le _, rfl, rfl, HW.out⟩
            case round =>
              clear HW HA
              obtain ⟨i, hi, rfl, HA, HW⟩ := hrel
              obtain ⟨hS, hT⟩ := HS.out wr HW.out
              have s9 := (block_cell hS 9).trans rfl
              have t9 := (block_cell hT 9).trans rfl
              clear hS hT
              by_cases hlt : i < S.clocks.length
              · have hlt' : i < T.clocks.length := by have := HJL.out; omega
                have hi1 : (0 : Int) ≤ (i : Int) := Int.natCast_nonneg _
                have hi2 : (i : Int) < (S.clocks.length : Int) := by omega
                have hi3 : (i : Int) < (T.clocks.length : Int) := by omega
                obtain ⟨b, o, rfl, q0, q1, q2⟩ := (HR.out.c.below HW.out).clk hlt
                obtain ⟨b', o', rfl, p0, p1, p2⟩ := (HR'.out.c.below HW.out).clk hlt'
                have HT : Hid (S.clocks[i] = T.clocks[i] → S.clocks.take (i + 1) = T.clocks.take (i + 1)) := fun e => by
                  rw [List.take_succ_eq_append_getElem hlt, List.take_succ_eq_append_getElem hlt', HA.out, e]
                have HN : Hid (S.clocks[i] ≠ T.clocks[i] → SM = false) := fun e => by
                  have hd : decide (S.clocks = T.clocks) = false := decide_eq_false (fun e2 => e (by simp only [e2]))
                  rw [HSM.out, hd]; simp
                have hmes : S.clocks.length - (intOf (.int .i64 ((i : Int) + 1))).toNat < S.clocks.length - (intOf (.int .i64 (i : Int))).toNat := by simp [intOf]; omega
                generalize S.clocks[i] = x at *
                generalize T.clocks[i] = y at *
                have hne := clk_neq x y
                unfold ClkS.val' at hne
                by_cases hxy : x = y
                · have hd : decide (x = y) = true := decide_eq_true hxy
                  rw [hd] at hne
                  have HT2 := Lib.hid (HT.out hxy)
                  clear hd hxy
                  go_wp2
                  go_quiet (fail)
                  have HW3 := Lib.hid (below_drewN HW.out nq)
                  go_wp2
                  go_roundw
                  case rel => exact ⟨i + 1, by omega, by go_num, HT2.out, HW3.out⟩
                  case measure => exact hmes
                · have hd : decide (x = y) = false := decide_eq_false hxy
                  rw [hd] at hne
                  have HT2 := Lib.hid (HN.out hxy)
                  clear hd hxy
                  go_wp2
                  go_quiet (fail)
                  have HW3 := Lib.hid (below_drewN HW.out nq)
                  go_wp2
                  go_ret
                  exact ⟨by rw [HT2.out]; rfl, HBW.out _ HW3.out⟩
              · obtain rfl : i = S.clocks.length := by omega
                have HCE : Hid (S.clocks = T.clocks) := by have := HA.out; rwa [List.take_length, HJL.out.2, List.take_length] at this
                have HSP : Hid (SM = PL) := by show _ = _; rw [HSM.out, decide_eq_true HJE.out, decide_eq_true HCE.out]; rfl
                have hll : ¬ (S.clocks.length : Int) < (S.clocks.length : Int) := by omega
                obtain ⟨hS, hT⟩ := HS.out wr HW.out
                have s2 := (block_cell hS 2).trans rfl
                have t2 := (block_cell hT 2).trans rfl
                have s3 := (block_cell hS 3).trans rfl
                have t3 := (block_cell hT 3).trans rfl
                have s4 := (block_cell hS 4).trans rfl
                have t4 := (block_cell hT 4).trans rfl
                have s5 := (block_cell hS 5).trans rfl
                have t5 := (block_cell hT 5).trans rfl
                have s6 := (block_cell hS 6).trans rfl
                have t6 := (block_cell hT 6).trans rfl
                have s7 := (block_cell hS 7).trans rfl
                have t7 := (block_cell hT 7).trans rfl
                have s10 := (block_cell hS 10).trans rfl
                have t10 := (block_cell hT 10).trans rfl
                have s11 := (block_cell hS 11).trans rfl
                have t11 := (block_cell hT 11).trans rfl
                clear hS hT
                have HP0 : Hid (SM = ((S.status == T.status) && ((S.next == T.next) && ((S.began == T.began) && ((S.asked == T.asked) && ((S.taken == T.taken) && ((S.fresh == T.fresh) && ((S.cancel == T.cancel) && ((S.overdue == T.overdue)))))))))) := HSP.out.trans HPL.out
                clear HSM HSP HPL
                cases g0 : (S.status == T.status) with
                | false =>
                  have HPF : Hid (SM = false) := by show _ = _; rw [HP0.out, g0]; rfl
                  go_wp2
                  go_ret
                  exact ⟨by rw [HPF.out]; rfl, HBW.out _ HW.out⟩
                | true =>
                  have HP1 : Hid (SM = ((S.next == T.next) && ((S.began == T.began) && ((S.asked == T.asked) && ((S.taken == T.taken) && ((S.fresh == T.fresh) && ((S.cancel == T.cancel) && ((S.overdue == T.overdue))))))))) := by show _ = _; rw [HP0.out, g0]; rfl
                  cases g1 : (S.next == T.next) with
                  | false =>
                    have HPF : Hid (SM = false) := by show _ = _; rw [HP1.out, g1]; rfl
                    go_wp2
                    go_ret
                    exact ⟨by rw [HPF.out]; rfl, HBW.out _ HW.out⟩
                  | true =>
                    have HP2 : Hid (SM = ((S.began == T.began) && ((S.asked == T.asked) && ((S.taken == T.taken) && ((S.fresh == T.fresh) && ((S.cancel == T.cancel) && ((S.overdue == T.overdue)))))))) := by show _ = _; rw [HP1.out, g1]; rfl
                    cases g2 : (S.began == T.began) with
                    | false =>
                      have HPF : Hid (SM = false) := by show _ = _; rw [HP2.out, g2]; rfl
                      go_wp2
                      go_ret
                      exact ⟨by rw [HPF.out]; rfl, HBW.out _ HW.out⟩
                    | true =>
                      have HP3 : Hid (SM = ((S.asked == T.asked) && ((S.taken == T.taken) && ((S.fresh == T.fresh) && ((S.cancel == T.cancel) && ((S.overdue == T.overdue))))))) := by show _ = _; rw [HP2.out, g2]; rfl
                      cases g3 : (S.asked == T.asked) with
                      | false =>
                        have HPF : Hid (SM = false) := by show _ = _; rw [HP3.out, g3]; rfl
                        go_wp2
                        go_ret
                        exact ⟨by rw [HPF.out]; rfl, HBW.out _ HW.out⟩
                      | true =>
                        have HP4 : Hid (SM = ((S.taken == T.taken) && ((S.fresh == T.fresh) && ((S.cancel == T.cancel) && ((S.overdue == T.overdue)))))) := by show _ = _; rw [HP3.out, g3]; rfl
                        cases g4 : (S.taken == T.taken) with
                        | false =>
                          have HPF : Hid (SM = false) := by show _ = _; rw [HP4.out, g4]; rfl
                          go_wp2
                          go_ret
                          exact ⟨by rw [HPF.out]; rfl, HBW.out _ HW.out⟩
                        | true =>
                          have HP5 : Hid (SM = ((S.fresh == T.fresh) && ((S.cancel == T.cancel) && ((S.overdue == T.overdue))))) := by show _ = _; rw [HP4.out, g4]; rfl
                          cases g5 : (S.fresh == T.fresh) with
                          | false =>
                            have HPF : Hid (SM = false) := by show _ = _; rw [HP5.out, g5]; rfl
                            go_wp2
                            go_ret
                            exact ⟨by rw [HPF.out]; rfl, HBW.out _ HW.out⟩
                          | true =>
                            have HP6 : Hid (SM = ((S.cancel == T.cancel) && ((S.overdue == T.overdue)))) := by show _ = _; rw [HP5.out, g5]; rfl
                            cases g6 : (S.cancel == T.cancel) with
                            | false =>
                              have HPF : Hid (SM = false) := by show _ = _; rw [HP6.out, g6]; rfl
                              go_wp2
                              go_ret
                              exact ⟨by rw [HPF.out]; rfl, HBW.out _ HW.out⟩
                            | true =>
                              have HP7 : Hid (SM = ((S.overdue == T.overdue))) := by show _ = _; rw [HP6.out, g6]; rfl
                              go_wp2
                              go_ret
                              exact ⟨by rw [HP7.out]; rfl, HBW.out _ HW.out⟩
      · have gj : ((S.jobs.length : Int) != (T.jobs.length : Int)) = false := by simp [hj]
        have gc : ((S.clocks.length : Int) != (T.clocks.length : Int)) = true := by rw [bne_iff_ne]; omega
        have HF : Hid (SM = false) := by
          have hd : decide (S.clocks = T.clocks) = false := decide_eq_false (fun e => hc (by rw [e]))
          show _ = _
          rw [HSM.out, hd]; simp
        clear hj hc
        go_wp2
        go_ret
        exact ⟨by rw [HF.out]; rfl, HBW.out _ B3.out⟩
    · have gj : ((S.jobs.length : Int) != (T.jobs.length : Int)) = true := by rw [bne_iff_ne]; omega
      have HF : Hid (SM = false) := by
        have hd : decide (S.jobs = T.jobs) = false := decide_eq_false (fun e => hj (by rw [e]))
        show _ = _
        rw [HSM.out, hd]; simp
      clear hj
      go_wp2
      go_ret
      exact ⟨by rw [HF.out]; rfl, HBW.out _ B3.out⟩
end Go.Proofs.Ytlkfpeefjpmmfaa

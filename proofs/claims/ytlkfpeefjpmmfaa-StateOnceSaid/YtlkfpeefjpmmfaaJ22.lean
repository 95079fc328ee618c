/- Joined: W14 R14f R13c R13e I22. -/
import Derived.Test.YtlkfpeefjpmmfaaJ21
import Derived.Test.YtlkfpeefjpmmfaaR14e
import Derived.Test.YtlkfpeefjpmmfaaJ15
import Derived.Deep.QuietTactic
import Derived.BigQuiet
import Derived.Deep.Cut
import Derived.Deep.RegionHeld3

namespace Go.Proofs.Ytlkfpeefjpmmfaa
open Go.RowKit
set_option linter.unusedVariables false

/-- Six cells of one block being set. -/
theorem six_set {B : Nat} {a w : World} {q : Nat} (h : Below B a w) (hq : B ≤ q) (u0 u1 u2 u3 u4 u5 : Value) :
    Below B a ((((((w.setCell ⟨q, 0, none⟩ u0).setCell ⟨q, 1, none⟩ u1).setCell ⟨q, 2, none⟩ u2).setCell ⟨q, 3, none⟩ u3).setCell ⟨q, 4, none⟩ u4).setCell ⟨q, 5, none⟩ u5) :=
  (((((h.setCell (p := ⟨q, 0, none⟩) hq _).setCell (p := ⟨q, 1, none⟩) hq _).setCell (p := ⟨q, 2, none⟩) hq _).setCell (p := ⟨q, 3, none⟩) hq _).setCell (p := ⟨q, 4, none⟩) hq _).setCell (p := ⟨q, 5, none⟩) hq _

set_option maxHeartbeats 4000000 in
set_option maxRecDepth 100000 in
theorem stepOf_any {w : World} {g j k : Value} (S : StS) (h : ReadG w g S.prog.steps) (i : Int) :
    Calls Try.prog 36 #[S.val' g j k, .int .i64 i] w fun x w' => x = .returned (stepG S.prog i).val' ∧ Below w.heap.size w w' := by
  obtain ⟨ga, gc, rfl⟩ := h.slice
  have hml : S.prog.steps.length ≤ 9223372036854775807 := by have := h.1; unfold maxLen at this; omega
  obtain ⟨w1, hw1, b1, X1, hs1⟩ := stBoxed w (.slice ga S.prog.steps.length gc) j k S
  obtain ⟨w2, hw2⟩ : ∃ w2, w1.alloc (.cells #[.int .i64 0, .string ⟨#[]⟩, .string ⟨#[]⟩, .int .i64 0, .int .i64 0, .int .i64 0] 53) = w2 := ⟨_, rfl⟩
  have b2 : Below w1.heap.size w1 w2 := by rw [← hw2]; exact (Below.refl _ w1).alloc (Nat.le_refl _) _
  have hn2 : w2.heap[w1.heap.size]? = some (.cells #[.int .i64 0, .string ⟨#[]⟩, .string ⟨#[]⟩, .int .i64 0, .int .i64 0, .int .i64 0] 53 (0, 0)) := by rw [← hw2]; exact heap_alloc_new _ _
  have B2 := Lib.hid (b1.trans (b2.mono b1.size))
  have HLE := Lib.hid b1.size
  have H2 := Lib.hid (h.below B2.out)
  have X2 := X1.later b2
  have c0 := (block_cell X2.cells 0).trans rfl
  have q0 := (block_cell hn2 0).trans rfl
  have q1 := (block_cell hn2 1).trans rfl
  have q2 := (block_cell hn2 2).trans rfl
  have q3 := (block_cell hn2 3).trans rfl
  have q4 := (block_cell hn2 4).trans rfl
  have q5 := (block_cell hn2 5).trans rfl
  have f0 := block_free hn2 0
  have f1 := block_free hn2 1
  have f2 := block_free hn2 2
  have f3 := block_free hn2 3
  have f4 := block_free hn2 4
  have f5 := block_free hn2 5
  unfold StS.val'
  by_cases hin : 0 ≤ i ∧ i < (S.prog.steps.length : Int)
  · obtain ⟨n, rfl⟩ := Int.eq_ofNat_of_zero_le hin.1
    have hn : n < S.prog.steps.length := by omega
    have HI := Lib.hid (stepG_in (p := S.prog) (i := (n : Int)) rfl hn)
    obtain ⟨b, o, rfl, r0, r1, r2, r3, r4, r5, -, -⟩ := H2.out.at hn
    have e0 : ¬ (n : Int) < 0 := by omega
    have e1 : ¬ (S.prog.steps.length : Int) ≤ (n : Int) := by omega
    generalize stepG S.prog (n : Int) = G at *
    generalize S.prog.steps[n] = x at *
    generalize S.prog.steps.length = L at *
    clear h hs1 X1 X2 b1 b2 hn2 hin H2
    go_enter Try.func36, Try.ntmps36
    go_wp2
    (try simp only [Exit.inBlock, Exit.then])
    refine bodyPost_ret (v := x.val') ?_ rfl ⟨by rw [HI.out], six_set B2.out HLE.out _ _ _ _ _ _⟩
    rw [results_cell14 rfl]
    unfold StepS.val'
    go_simp
  · have HI := Lib.hid (stepG_out (p := S.prog) (i := i) (by omega))
    generalize stepG S.prog i = G at *
    by_cases hlo : i < 0
    · generalize S.prog.steps.length = L at *
      clear h hs1 X1 X2 b1 b2 hn2 hin H2
      go_enter Try.func36, Try.ntmps36
      go_wp2
      (try simp only [Exit.inBlock, Exit.then])
      refine bodyPost_ret (v := StepS.zero.val') ?_ rfl ⟨by rw [HI.out], six_set B2.out HLE.out _ _ _ _ _ _⟩
      rw [results_cell14 rfl]
      unfold StepS.val' StepS.zero
      go_simp
    · have e1 : (S.prog.steps.length : Int) ≤ i := by omega
      generalize S.prog.steps.length = L at *
      clear h hs1 X1 X2 b1 b2 hn2 hin H2
      go_enter Try.func36, Try.ntmps36
      go_wp2
      (try simp only [Exit.inBlock, Exit.then])
      refine bodyPost_ret (v := StepS.zero.val') ?_ rfl ⟨by rw [HI.out], six_set B2.out HLE.out _ _ _ _ _ _⟩
      rw [results_cell14 rfl]
      unfold StepS.val' StepS.zero
      go_simp

set_option maxHeartbeats 1000000 in
set_option maxRecDepth 100000 in
theorem undecided_any {w : World} {g j k : Value} (S : StS) :
    Calls Try.prog 55 #[S.val' g j k] w fun x w' => x = .returned (.bool ((S.asked == 0) && (S.taken == 0))) ∧ Below w.heap.size w w' := by
  obtain ⟨w1, hw1, b1, X1, hs1⟩ := stBoxed w g j k S
  have c4 := (block_cell X1.cells 5).trans rfl
  have c5 := (block_cell X1.cells 6).trans rfl
  have B1 := Lib.hid b1
  unfold StS.val'
  generalize S.asked = x at *
  generalize S.taken = y at *
  clear hs1 X1 b1
  by_cases hx : x = 0
  · have g1 : (x == 0) = true := by simp [hx]
    rw [g1]
    clear hx
    go_enter Try.func55, Try.ntmps55
    go_wp2
    go_ret
    exact ⟨rfl, B1.out⟩
  · have g1 : (x == 0) = false := by simp [hx]
    rw [g1]
    clear hx
    go_enter Try.func55, Try.ntmps55
    go_wp2
    go_ret
    exact ⟨rfl, B1.out⟩

set_option maxHeartbeats 4000000 in
set_option maxRecDepth 100000 in
theorem tries14_any {w : World} {g j k : Value} (S : StS) (h : ReadG w g S.prog.steps) (x : JobS) :
    Calls Try.prog 58 #[S.val' g j k, x.val'] w fun e w' => e = .returned (.int .i64 (triesG S.prog x)) ∧ Below w.heap.size w w' := by
  obtain ⟨id, step, undo, tryN⟩ := x
  obtain ⟨ga, gc, rfl⟩ := h.slice
  obtain ⟨w1, hw1, b1, X1, hs1⟩ := stBoxed w (.slice ga S.prog.steps.length gc) j k S
  obtain ⟨w2, hw2⟩ : ∃ w2, w1.alloc (.cells #[.int .i64 id, .int .i64 step, .bool undo, .int .i64 tryN] 49) = w2 := ⟨_, rfl⟩
  have b2 : Below w1.heap.size w1 w2 := by rw [← hw2]; exact (Below.refl _ w1).alloc (Nat.le_refl _) _
  have hn2 : w2.heap[w1.heap.size]? = some (.cells #[.int .i64 id, .int .i64 step, .bool undo, .int .i64 tryN] 49 (0, 0)) := by rw [← hw2]; exact heap_alloc_new _ _
  have B2 := Lib.hid (b1.trans (b2.mono b1.size))
  have X2 := X1.later b2
  have HST := Lib.hid (stepOf_any (j := j) (k := k) S (h.below B2.out) step)
  have HX2 := Lib.hid X2
  have HN2 := Lib.hid hn2
  have HI : Hid (triesG S.prog ⟨id, step, undo, tryN⟩ = if (stepG S.prog step).kind = 1 then (if undo then (stepG S.prog step).undoTries else (stepG S.prog step).tries) else 0) := rfl
  have c0 := (block_cell X2.cells 0).trans rfl
  have c1 := (block_cell X2.cells 1).trans rfl
  have c2 := (block_cell X2.cells 2).trans rfl
  have c3 := (block_cell X2.cells 3).trans rfl
  have c4 := (block_cell X2.cells 4).trans rfl
  have c5 := (block_cell X2.cells 5).trans rfl
  have c6 := (block_cell X2.cells 6).trans rfl
  have c7 := (block_cell X2.cells 7).trans rfl
  have c8 := (block_cell X2.cells 8).trans rfl
  have c9 := (block_cell X2.cells 9).trans rfl
  have c10 := (block_cell X2.cells 10).trans rfl
  have c11 := (block_cell X2.cells 11).trans rfl
  have d1 := (block_cell hn2 1).trans rfl
  generalize triesG S.prog ⟨id, step, undo, tryN⟩ = T at *
  generalize stepG S.prog step = x at *
  unfold StS.val' JobS.val' at *
  simp only at HST ⊢
  clear h hs1 X1 X2 b1 b2 hn2
  go_enter Try.func58, Try.ntmps58
  go_wp2_with fail
  refine HST.out.mono ?_
  rintro e w3 ⟨rfl, b3⟩
  have B3 := Lib.hid (B2.out.trans (b3.mono B2.out.size))
  have hn3 := (b3.block _ (block_lt HN2.out)).trans HN2.out
  have d2 := (block_cell hn3 2).trans rfl
  obtain ⟨w4, hw4⟩ : ∃ w4, w3.alloc (.cells #[.int .i64 x.kind, .string x.name, .string x.undo, .int .i64 x.tries, .int .i64 x.undoTries, .int .i64 x.wait] 53) = w4 := ⟨_, rfl⟩
  have b4 : Below w3.heap.size w3 w4 := by rw [← hw4]; exact (Below.refl _ w3).alloc (Nat.le_refl _) _
  have hn4 : w4.heap[w3.heap.size]? = some (.cells #[.int .i64 x.kind, .string x.name, .string x.undo, .int .i64 x.tries, .int .i64 x.undoTries, .int .i64 x.wait] 53 (0, 0)) := by rw [← hw4]; exact heap_alloc_new _ _
  have B4 := Lib.hid (B3.out.trans (b4.mono B3.out.size))
  have e0 := (block_cell hn4 0).trans rfl
  have e3 := (block_cell hn4 3).trans rfl
  have e4 := (block_cell hn4 4).trans rfl
  have d2' := (block_cell ((b4.block _ (block_lt hn3)).trans hn3) 2).trans rfl
  clear b3 hn3 d2 b4 hn4 c0 c1 c2 c3 c4 c5 c6 c7 c8 c9 c10 c11 d1
  unfold StepS.val'
  by_cases hk : x.kind = 1
  · have g1 : (x.kind != 1) = false := by simp [hk]
    have HI2 : Hid (T = if undo then x.undoTries else x.tries) := by show _ = _; rw [HI.out, if_pos hk]
    clear hk HI
    cases undo with
    | true =>
      have HI3 : Hid (T = x.undoTries) := HI2.out
      go_wp2
      go_ret
      exact ⟨by rw [HI3.out]; rfl, B4.out⟩
    | false =>
      have HI3 : Hid (T = x.tries) := HI2.out
      go_wp2
      go_ret
      exact ⟨by rw [HI3.out]; rfl, B4.out⟩
  · have g1 : (x.kind != 1) = true := by simp [hk]
    have HI2 : Hid (T = 0) := by show _ = _; rw [HI.out, if_neg hk]
    clear hk HI
    go_wp2
    go_ret
    exact ⟨by rw [HI2.out]; rfl, B4.out⟩
end Go.Proofs.Ytlkfpeefjpmmfaa

namespace Go.Proofs.Ytlkfpeefjpmmfaa
open Go.RowKit
set_option linter.unusedVariables false

theorem find_take {α : Type} {l : List α} {i : Nat} (h : i < l.length) (p : α → Bool) : (l.take (i + 1)).find? p = ((l.take i).find? p).or (if p l[i] then some l[i] else none) := by
  rw [List.take_succ_eq_append_getElem h, List.find?_append]
  congr 1
  rw [List.find?_cons, List.find?_nil]
  cases p l[i] <;> rfl
theorem find_hit {α : Type} {l : List α} {i : Nat} (h : i < l.length) {p : α → Bool} (h0 : (l.take i).find? p = none) (hp : p l[i] = true) : l.find? p = some l[i] := by
  have h1 := find_take h p
  rw [h0, hp] at h1
  have h2 : l.find? p = ((l.take (i + 1)).find? p).or ((l.drop (i + 1)).find? p) := by
    rw [← List.find?_append, List.take_append_drop]
  rw [h2, h1]
  rfl
theorem find_miss {α : Type} {l : List α} {i : Nat} (h : i < l.length) {p : α → Bool} (h0 : (l.take i).find? p = none) (hp : p l[i] = false) : (l.take (i + 1)).find? p = none := by
  rw [find_take h p, h0, hp]
  rfl
/-- The four cells of a job. -/
theorem ReadR.job {w : World} {a : Option Addr} {n c : Nat} {l : List JobS} (h : ReadJ w (.slice a n c) l) {i : Nat} (hi : i < l.length) :
    ∃ b o, a = some ⟨b, o, none⟩ ∧ w.cell? ⟨b, o + i * 4, none⟩ = some (.int .i64 l[i].id) ∧ w.cell? ⟨b, o + i * 4 + 1, none⟩ = some (.int .i64 l[i].step) ∧ w.cell? ⟨b, o + i * 4 + 2, none⟩ = some (.bool l[i].undo) ∧ w.cell? ⟨b, o + i * 4 + 3, none⟩ = some (.int .i64 l[i].tryN) := by
  obtain ⟨b, o, e, h⟩ := h.at hi
  exact ⟨b, o, e, h 0 _ rfl, h 1 _ rfl, h 2 _ rfl, h 3 _ rfl⟩
theorem ReadR.clk {w : World} {a : Option Addr} {n c : Nat} {l : List ClkS} (h : ReadC w (.slice a n c) l) {i : Nat} (hi : i < l.length) :
    ∃ b o, a = some ⟨b, o, none⟩ ∧ w.cell? ⟨b, o + i * 3, none⟩ = some (.int .i64 l[i].id) ∧ w.cell? ⟨b, o + i * 3 + 1, none⟩ = some (.int .i64 l[i].step) ∧ w.cell? ⟨b, o + i * 3 + 2, none⟩ = some (.int .i64 l[i].tick) := by
  obtain ⟨b, o, e, h⟩ := h.at hi
  exact ⟨b, o, e, h 0 _ rfl, h 1 _ rfl, h 2 _ rfl⟩

set_option maxHeartbeats 4000000 in
set_option maxRecDepth 100000 in
theorem rfired_any {w : World} {v : Value} {l : List EvS} (h : ReadE w v l) (ho : OkH l) (e : EvS) :
    Calls Try.prog 49 #[v, e.val'] w fun x w' => x = .returned (.bool (firedS (clksH l) e)) ∧ Below w.heap.size w w' := by
  obtain ⟨id, kind, tick, ref, step, tryN, undo, data⟩ := e
  obtain ⟨w1, hw1⟩ : ∃ w1, w.alloc (.cells #[.int .i64 id, .int .i64 kind, .int .i64 tick, .int .i64 ref, .int .i64 step, .int .i64 tryN, .bool undo, .string data] 39) = w1 := ⟨_, rfl⟩
  have hb1 : Below w.heap.size w w1 := by rw [← hw1]; exact (Below.refl _ w).alloc (Nat.le_refl _) _
  have hs1 : w1.heap.size = w.heap.size + 1 := by rw [← hw1]; simp
  have hn1 : w1.heap[w.heap.size]? = some (.cells #[.int .i64 id, .int .i64 kind, .int .i64 tick, .int .i64 ref, .int .i64 step, .int .i64 tryN, .bool undo, .string data] 39 (0, 0)) := by rw [← hw1]; exact heap_alloc_new _ _
  have HCL := Lib.hid (rclocks_any (h.below hb1) ho)
  have HFS : Hid (∀ (c : ClkS) , (clksH l).find? (fun c => decide (c.id = ref)) = some c → firedS (clksH l) ⟨id, kind, tick, ref, step, tryN, undo, data⟩ = decide (c.tick ≤ tick)) := fun c hc => by unfold firedS; simp only [hc]
  have HFN : Hid ((clksH l).find? (fun c => decide (c.id = ref)) = none → firedS (clksH l) ⟨id, kind, tick, ref, step, tryN, undo, data⟩ = false) := fun hc => by unfold firedS; simp only [hc]
  have HB1 : Hid (Below w.heap.size w w1 ∧ w1.heap[w.heap.size]? = some (.cells #[.int .i64 id, .int .i64 kind, .int .i64 tick, .int .i64 ref, .int .i64 step, .int .i64 tryN, .bool undo, .string data] 39 (0, 0))) := ⟨hb1, hn1⟩
  generalize firedS (clksH l) ⟨id, kind, tick, ref, step, tryN, undo, data⟩ = FSX at *
  generalize clksH l = cl at *
  unfold EvS.val'
  clear h hb1 hs1 hn1
  go_enter Try.func49, Try.ntmps49
  go_wp2_with fail
  refine HCL.out.mono ?_
  rintro x w2 ⟨v2, rfl, o2, b2⟩
  obtain ⟨ca, cc, rfl⟩ := o2.1.slice
  have hml : cl.length ≤ 9223372036854775807 := by have := o2.1.1; unfold maxLen at this; omega
  have HO2 := Lib.hid o2
  have HB2 : Hid (Below w.heap.size w w2 ∧ w2.heap[w.heap.size]? = some (.cells #[.int .i64 id, .int .i64 kind, .int .i64 tick, .int .i64 ref, .int .i64 step, .int .i64 tryN, .bool undo, .string data] 39 (0, 0))) := ⟨HB1.out.1.trans (b2.mono HB1.out.1.size), (b2.block _ (block_lt HB1.out.2)).trans HB1.out.2⟩
  clear o2 b2 hw1 HB1 HCL
  go_wp2
  go_loopw [6] (fun iv wr => ∃ i : Nat, i ≤ cl.length ∧ iv = .int .i64 (i : Int) ∧ Hid ((cl.take i).find? (fun c => decide (c.id = ref)) = none) ∧ Hid (Below w2.heap.size w2 wr)) (fun iv _ => cl.length - (intOf iv).toNat)
  case atStart => exact ⟨0, Nat.zero_le _, rfl, rfl, Below.refl _ _⟩
  case round =>
    obtain ⟨i, hi, rfl, HA, HW⟩ := hrel
    have hnw := (HW.out.block _ (block_lt HB2.out.2)).trans HB2.out.2
    have c2 := (block_cell hnw 2).trans rfl
    have c3 := (block_cell hnw 3).trans rfl
    clear hnw
    by_cases hlt : i < cl.length
    · obtain ⟨b, o, rfl, q0, q1, q2⟩ := (HO2.out.1.below HW.out).clk hlt
      have HH := Lib.hid (find_hit (p := fun c => decide (c.id = ref)) hlt HA.out)
      have HM := Lib.hid (find_miss (p := fun c => decide (c.id = ref)) hlt HA.out)
      have hmes : cl.length - (intOf (.int .i64 ((i : Int) + 1))).toNat < cl.length - (intOf (.int .i64 (i : Int))).toNat := by simp [intOf]; omega
      have hi1 : (0 : Int) ≤ (i : Int) := Int.natCast_nonneg _
      have hi2 : (i : Int) < (cl.length : Int) := by omega
      generalize cl[i] = y at *
      by_cases hr : y.id = ref
      · have HF := Lib.hid (HFS.out _ (HH.out (decide_eq_true hr)))
        have g1 : (y.id == ref) = true := by rw [beq_iff_eq]; exact hr
        clear hr
        go_wp2
        go_quiet (fail)
        have HW2 := Lib.hid (below_drewN HW.out nq)
        go_wp2
        go_quiet (fail)
        have HW3 := Lib.hid (below_drewN HW2.out nq)
        go_wp2
        go_ret
        exact ⟨by rw [HF.out]; rfl, HB2.out.1.trans (HW3.out.mono HB2.out.1.size)⟩
      · have HN := Lib.hid (HM.out (decide_eq_false hr))
        have g1 : (y.id == ref) = false := by rw [beq_eq_false_iff_ne]; exact hr
        clear hr
        go_wp2
        go_quiet (fail)
        have HW2 := Lib.hid (below_drewN HW.out nq)
        go_wp2
        go_roundw
        case rel => exact ⟨i + 1, by omega, by go_num, HN.out, HW2.out⟩
        case measure => exact hmes
    · obtain rfl : i = cl.length := by omega
      have HF := Lib.hid (HFN.out (by have := HA.out; rwa [List.take_length] at this))
      have hll : ¬ (cl.length : Int) < (cl.length : Int) := by omega
      go_wp2
      go_ret
      exact ⟨by rw [HF.out]; rfl, HB2.out.1.trans (HW.out.mono HB2.out.1.size)⟩
end Go.Proofs.Ytlkfpeefjpmmfaa

namespace Go.Proofs.Ytlkfpeefjpmmfaa
open Go.RowKit
set_option linter.unusedVariables false

def encES (e : EvS) : ByteArray := if evB e = true then bx (encEv e) else bx []
def encEE (e : EvS) : Nat := if evB e = true then 0 else 120
/-- What stands behind so many fields. -/
def evTo (e : EvS) (i : Nat) : List UInt8 := headL e ++ fldsL e ((shapeL e.kind).take i)
theorem evTo_all (e : EvS) : evTo e (shapeL e.kind).length = encEv e := by unfold evTo encEv; rw [List.take_length]
theorem evTo_next {e : EvS} {i : Nat} (h : i < (shapeL e.kind).length) : evTo e (i + 1) = evTo e i ++ fldL e (shapeL e.kind)[i] := by
  unfold evTo fldsL
  rw [List.take_succ_eq_append_getElem h, List.flatMap_append, List.flatMap_cons, List.flatMap_nil, List.append_nil, List.append_assoc]
theorem evTo_len {e : EvS} (h : evB e = true) (i : Nat) : (evTo e i).length ≤ 1100 := by
  have h1 := encEv_len h
  have h2 : (fldsL e (shapeL e.kind)).length = (fldsL e ((shapeL e.kind).take i)).length + (fldsL e ((shapeL e.kind).drop i)).length := by
    rw [← List.length_append]
    unfold fldsL
    rw [← List.flatMap_append, List.take_append_drop]
  unfold encEv at h1
  unfold evTo
  rw [List.length_append] at h1 ⊢
  omega
/-- Its numbers. -/
theorem ev_nums {e : EvS} (h : evB e = true) : ∃ i k t r s y : Nat, e.id = i ∧ e.kind = k ∧ e.tick = t ∧ e.ref = r ∧ e.step = s ∧ e.tryN = y ∧ i ≤ 500 ∧ k ≤ 18 ∧ t ≤ 1099511627776 ∧ r ≤ 500 ∧ s ≤ 15 ∧ y ≤ 5 ∧ e.data.size ≤ 1000 := by
  have h := (evB_iff e).1 h
  have hd := dataB_size h.data
  obtain ⟨h1, h2, h3, h4, h5, h6, h7, h8, h9, h10, h11⟩ := h
  have hr : 0 ≤ e.ref ∧ e.ref ≤ 500 := by
    cases hc : (shapeL e.kind).contains 114
    · have := h5 hc; omega
    · have := h4 hc; omega
  have hs : 0 ≤ e.step ∧ e.step ≤ 15 := by
    cases hc : (shapeL e.kind).contains 115
    · have := h7 hc; omega
    · have := h6 hc; omega
  have ht : 0 ≤ e.tryN ∧ e.tryN ≤ 5 := by
    cases hc : (shapeL e.kind).contains 116
    · have := h9 hc; omega
    · have := h8 hc; omega
  exact ⟨e.id.toNat, e.kind.toNat, e.tick.toNat, e.ref.toNat, e.step.toNat, e.tryN.toNat, by omega, by omega, by omega, by omega, by omega, by omega, by omega, by omega, by omega, by omega, by omega, by omega, hd⟩
theorem bx_at (f : List UInt8) (i : Nat) (h : i < f.length) (h2 : i < (bx f).size) : (bx f)[i] = f[i] := by
  show (f.toArray)[i]'(by simpa using h) = f[i]
  simp
  rfl

end Go.Proofs.Ytlkfpeefjpmmfaa

namespace Go.Proofs.Ytlkfpeefjpmmfaa
open Go.RowKit
set_option linter.unusedVariables false

def EvS.zero : EvS := ⟨0, 0, 0, 0, 0, 0, false, ⟨#[]⟩⟩
def EvS.arr (e : EvS) : Array Value := #[.int .i64 e.id, .int .i64 e.kind, .int .i64 e.tick, .int .i64 e.ref, .int .i64 e.step, .int .i64 e.tryN, .bool e.undo, .string e.data]
/-- An event while it is read: the reader, the event so far. -/
structure EvAt (w wr : World) (rb xb : Nat) (R : Option (List UInt8)) (e : EvS) : Prop where
  rd : RDE wr rb R
  x : wr.heap[xb]? = some (.cells e.arr 39 (0, 0))
  ord : rb < xb ∧ w.heap.size < rb
  below : Below w.heap.size w wr
  res : wr.heap[w.heap.size]? = some (.cells EvS.zero.arr 39 (0, 0))
section
variable {w wr w' : World} {rb xb : Nat} {R R' : Option (List UInt8)} {e : EvS}
theorem EvAt.call (h : EvAt w wr rb xb R e) (t : Left wr w' rb R') : EvAt w w' rb xb R' e :=
  ⟨t.1, (t.2.block xb (block_lt h.x) (by have := h.ord; simp; omega)).trans h.x, h.ord, h.below.trans (t.below h.below.size (Nat.le_of_lt h.ord.2)), (t.2.block _ (block_lt h.res) (by have := h.ord; simp; omega)).trans h.res⟩
theorem EvAt.later (h : EvAt w wr rb xb R e) (b : Below wr.heap.size wr w') : EvAt w w' rb xb R e :=
  ⟨h.rd.below b, (b.block xb (block_lt h.x)).trans h.x, h.ord, h.below.trans (b.mono h.below.size), (b.block _ (block_lt h.res)).trans h.res⟩
theorem EvAt.store (h : EvAt w wr rb xb R e) (i : Nat) (u : Value) (e' : EvS) (he : e'.arr = e.arr.setIfInBounds i u) : EvAt w (wr.setCell ⟨xb, i, none⟩ u) rb xb R e' := by
  have ho := h.ord
  have hb : ∀ k, k ≠ xb → (wr.setCell ⟨xb, i, none⟩ u).heap[k]? = wr.heap[k]? := fun k e => Below.heap_setCell _ _ _ _ (fun e2 => e (by first | exact e2 | exact e2.symm))
  exact ⟨h.rd.block (hb rb (by omega)), by rw [he]; exact block_set h.x i u, h.ord, h.below.setCell (p := ⟨xb, i, none⟩) (by simp only; omega) u, (hb _ (by omega)).trans h.res⟩
theorem EvAt.cell (h : EvAt w wr rb xb R e) (i : Nat) : wr.cell? ⟨xb, i, none⟩ = e.arr[i]? := block_cell h.x i
theorem EvAt.free (h : EvAt w wr rb xb R e) (i : Nat) : wr.frozen? ⟨xb, i, none⟩ = false := block_free h.x i
end
/-- How Decode ends. -/
def EvEnd (l : List UInt8) (e : EvS) (E : Nat) : Prop := (okE l = true ∧ e = (rdEv (some l)).1 ∧ E = 0) ∨ (okE l = false ∧ e = EvS.zero ∧ E = 60)
theorem Most.head {N : Nat} {R : Option (List UInt8)} (h : Most N R) : Most N (rdHead R).2 ∧ (rdHead R).1.data.size ≤ N := ⟨((h.int _).int _).int _, Nat.zero_le _⟩
theorem Most.fld {N : Nat} {x : EvS × Option (List UInt8)} (h : Most N x.2 ∧ x.1.data.size ≤ N) (c : UInt8) : Most N (rdFld x c).2 ∧ (rdFld x c).1.data.size ≤ N := by
  have z : ∀ l : List UInt8, (⟨l.toArray⟩ : ByteArray).size = l.length := fun l => by show l.toArray.size = _; simp
  unfold rdFld
  simp only
  split
  · exact ⟨h.1.int _, h.2⟩
  split
  · exact ⟨h.1.int _, h.2⟩
  split
  · exact ⟨h.1.int _, h.2⟩
  split
  · exact ⟨h.1.int _, h.2⟩
  · exact ⟨h.1.text.1, by rw [z]; exact h.1.text.2⟩
theorem Most.flds {N : Nat} : ∀ (f : List UInt8) {x : EvS × Option (List UInt8)} (h : Most N x.2 ∧ x.1.data.size ≤ N), Most N (rdFlds x f).2 ∧ (rdFlds x f).1.data.size ≤ N
  | [], x, h => h
  | c :: r, x, h => Most.flds r (Most.fld h c)
theorem rdFlds_next {x : EvS × Option (List UInt8)} {f : List UInt8} {i : Nat} (h : i < f.length) : rdFlds x (f.take (i + 1)) = rdFld (rdFlds x (f.take i)) f[i] := by
  unfold rdFlds
  rw [List.take_succ_eq_append_getElem h, List.foldl_append]
  rfl
theorem infoEv : (Try.prog.info? 39).map (fun i => (i.zero, i.size, i.bytes)) = some (some (.agg EvS.zero.arr), 8, 72) := by kernel_rfl

end Go.Proofs.Ytlkfpeefjpmmfaa

namespace Go.Proofs.Ytlkfpeefjpmmfaa
open Go.RowKit
set_option linter.unusedVariables false

/-- An event in its box. -/
def EvBox (w : World) (b : Nat) (e : EvS) : Prop := w.heap[b]? = some (.cells e.arr 39 (0, 0))
section
variable {w w' : World} {b : Nat} {e : EvS}
theorem EvBox.lt (h : EvBox w b e) : b < w.heap.size := block_lt h
theorem EvBox.later (h : EvBox w b e) (t : Below w.heap.size w w') : EvBox w' b e := (t.block b h.lt).trans h
theorem EvBox.c (h : EvBox w b e) : w.cell? ⟨b, 0, none⟩ = some (.int .i64 e.id) ∧ w.cell? ⟨b, 1, none⟩ = some (.int .i64 e.kind) ∧ w.cell? ⟨b, 2, none⟩ = some (.int .i64 e.tick) ∧ w.cell? ⟨b, 3, none⟩ = some (.int .i64 e.ref) ∧
    w.cell? ⟨b, 4, none⟩ = some (.int .i64 e.step) ∧ w.cell? ⟨b, 5, none⟩ = some (.int .i64 e.tryN) ∧ w.cell? ⟨b, 6, none⟩ = some (.bool e.undo) ∧ w.cell? ⟨b, 7, none⟩ = some (.string e.data) :=
  ⟨by rw [block_cell h]; rfl, by rw [block_cell h]; rfl, by rw [block_cell h]; rfl, by rw [block_cell h]; rfl, by rw [block_cell h]; rfl, by rw [block_cell h]; rfl, by rw [block_cell h]; rfl, by rw [block_cell h]; rfl⟩
theorem evBoxed (w : World) (e : EvS) : ∃ w', w.alloc (.cells #[.int .i64 e.id, .int .i64 e.kind, .int .i64 e.tick, .int .i64 e.ref, .int .i64 e.step, .int .i64 e.tryN, .bool e.undo, .string e.data] 39) = w' ∧ Below w.heap.size w w' ∧ EvBox w' w.heap.size e ∧ w'.heap.size = w.heap.size + 1 :=
  ⟨_, rfl, (Below.refl _ w).alloc (Nat.le_refl _) _, heap_alloc_new _ _, by simp⟩
end
end Go.Proofs.Ytlkfpeefjpmmfaa

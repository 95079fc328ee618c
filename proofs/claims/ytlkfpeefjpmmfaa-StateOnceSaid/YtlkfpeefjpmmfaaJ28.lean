/- Joined: W12e K12. -/
import Derived.Test.YtlkfpeefjpmmfaaM12p
import Derived.Test.YtlkfpeefjpmmfaaJ26
import Derived.Test.YtlkfpeefjpmmfaaR12f
import Derived.Deep.Cut
import Derived.Test.YtlkfpeefjpmmfaaJ15
import Derived.Test.YtlkfpeefjpmmfaaR12g

namespace Go.Proofs.Ytlkfpeefjpmmfaa
open Go.RowKit
set_option linter.unusedVariables false

/-- A step while it is read: the reader at b, the result's cells at q, the step's at x. -/
structure StepX (w wr : World) (b x : Nat) (R : Option (List UInt8)) (cs : Array Value) : Prop where
  rd : RDE wr b R
  s : wr.heap[x]? = some (.cells cs 53 (0, 0))
  q : wr.heap[w.heap.size]? = some (.cells #[.int .i64 0, .string ⟨#[]⟩, .string ⟨#[]⟩, .int .i64 0, .int .i64 0, .int .i64 0] 53 (0, 0))
  g : w.grownBy wr (some b)
  ord : b < w.heap.size ∧ w.heap.size < x
theorem grownBy_later {a b c : World} {row : Option Nat} (h : a.grownBy b row) (k : Below a.heap.size b c) : a.grownBy c row :=
  ⟨k.os.trans h.os, k.tape.trans h.tape, k.output.trans h.output, Nat.le_trans h.size k.size, fun i hi hr => (k.block i hi).trans (h.block i hi hr)⟩
section
variable {w wr w' : World} {b x : Nat} {R R' : Option (List UInt8)} {cs : Array Value}
theorem StepX.call (h : StepX w wr b x R cs) (t : Left wr w' b R') : StepX w w' b x R' cs := by
  have ho := h.ord
  exact ⟨t.1, (t.2.block x (block_lt h.s) (by simp; omega)).trans h.s, (t.2.block _ (block_lt h.q) (by simp; omega)).trans h.q, grownBy_trans h.g t.2, ho⟩
theorem StepX.store (h : StepX w wr b x R cs) (i : Nat) (u : Value) : StepX w (wr.setCell ⟨x, i, none⟩ u) b x R (cs.setIfInBounds i u) := by
  have ho := h.ord
  have hb : ∀ k, k ≠ x → (wr.setCell ⟨x, i, none⟩ u).heap[k]? = wr.heap[k]? := fun k e => Below.heap_setCell _ _ _ _ (fun e2 => e (by first | exact e2 | exact e2.symm))
  exact ⟨h.rd.block (hb b (by omega)), block_set h.s i u, (hb _ (by omega)).trans h.q, grownBy_later h.g ((Below.refl _ wr).setCell (p := ⟨x, i, none⟩) (Nat.le_of_lt ho.2) u), ho⟩
theorem StepX.cell (h : StepX w wr b x R cs) (i : Nat) : wr.cell? ⟨x, i, none⟩ = cs[i]? := block_cell h.s i
theorem StepX.free (h : StepX w wr b x R cs) (i : Nat) : wr.frozen? ⟨x, i, none⟩ = false := block_free h.s i
/-- Behind the result's cells being set. -/
theorem StepX.ends (h : StepX w wr b x R cs) (v0 v1 v2 v3 v4 v5 : Value) : Left w ((((((wr.setCell ⟨w.heap.size, 0, none⟩ v0).setCell ⟨w.heap.size, 1, none⟩ v1).setCell ⟨w.heap.size, 2, none⟩ v2).setCell ⟨w.heap.size, 3, none⟩ v3).setCell ⟨w.heap.size, 4, none⟩ v4).setCell ⟨w.heap.size, 5, none⟩ v5) b R := by
  have ho := h.ord
  refine ⟨?_, grownBy_later h.g (set6_below (Below.refl _ _) (Nat.le_refl _) _ _ _ _ _ _)⟩
  exact h.rd.block ((set6_below (B := w.heap.size) (Below.refl _ wr) (Nat.le_refl _) v0 v1 v2 v3 v4 v5).block b ho.1)
end
theorem stepX_new {w wr : World} {b : Nat} {R : Option (List UInt8)} (cs : Array Value) (h : Left (w.alloc (.cells #[.int .i64 0, .string ⟨#[]⟩, .string ⟨#[]⟩, .int .i64 0, .int .i64 0, .int .i64 0] 53)) wr b R) (hb : b < w.heap.size) : StepX w (wr.alloc (.cells cs 53)) b wr.heap.size R cs := by
  have hs : (w.alloc (.cells #[.int .i64 0, .string ⟨#[]⟩, .string ⟨#[]⟩, .int .i64 0, .int .i64 0, .int .i64 0] 53)).heap.size = w.heap.size + 1 := by simp
  have hsz := h.2.size
  have ha := (Below.refl wr.heap.size wr).alloc (Nat.le_refl _) (.cells cs 53)
  have hq := (h.2.block w.heap.size (by omega) (by simp; omega)).trans (heap_alloc_new w (.cells #[.int .i64 0, .string ⟨#[]⟩, .string ⟨#[]⟩, .int .i64 0, .int .i64 0, .int .i64 0] 53))
  exact ⟨h.1.below ha, heap_alloc_new _ _, (ha.block _ (by omega)).trans hq, grownBy_later (grownBy_trans (grownBy_below _ ((Below.refl _ w).alloc (Nat.le_refl _) _)) h.2) (ha.mono (by omega)), ⟨hb, by omega⟩⟩
theorem tv_bytes (l : List UInt8) : tv l = .string ⟨l.toArray⟩ := rfl
set_option maxHeartbeats 8000000 in
set_option maxRecDepth 100000 in
theorem readStep_any {w : World} {b : Nat} {R : Option (List UInt8)} (h : RDE w b R) :
    Calls Try.prog 63 #[.pointer (some ⟨b, 0, none⟩)] w fun e w' => e = .returned (rdStepV R).1.val' ∧ Left w w' b (rdStepV R).2 := by
  have hbl := h.lt
  obtain ⟨w1, hw1⟩ : ∃ w1, w.alloc (.cells #[.int .i64 0, .string ⟨#[]⟩, .string ⟨#[]⟩, .int .i64 0, .int .i64 0, .int .i64 0] 53) = w1 := ⟨_, rfl⟩
  have H1 : Hid (RDE w1 b R) := by rw [← hw1]; exact h.below ((Below.refl _ w).alloc (Nat.le_refl _) _)
  have HNEW : Hid (∀ (wr : World) (Q : Option (List UInt8)) (cs : Array Value), Left w1 wr b Q → StepX w (wr.alloc (.cells cs 53)) b wr.heap.size Q cs) := fun wr Q cs t => stepX_new cs (by rw [hw1]; exact t) hbl
  obtain ⟨KK, hKK⟩ : ∃ K, (intS 3 R).1 = K := ⟨_, rfl⟩
  obtain ⟨Q0, hQ0⟩ : ∃ Q, (intS 3 R).2 = Q := ⟨_, rfl⟩
  have HK1 : Hid ((intS 3 R).1 = KK ∧ (intS 3 R).2 = Q0) := ⟨hKK, hQ0⟩
  clear h
  go_enter Try.func63, Try.ntmps63
  go_wp2_with fail
  refine (int_any H1.out 3 (by omega)).mono ?_
  rintro e w2 ⟨rfl, t2⟩
  rw [hQ0] at t2
  rw [hKK]
  have HX := Lib.hid (HNEW.out w2 _ #[.int .i64 (KK : Int), .string ⟨#[]⟩, .string ⟨#[]⟩, .int .i64 0, .int .i64 0, .int .i64 0] t2)
  clear t2 hQ0 hKK H1 HNEW
  go_upto_region 2 with (fail)
  clear hw1
  generalize w2.alloc (.cells #[.int .i64 (KK : Int), .string ⟨#[]⟩, .string ⟨#[]⟩, .int .i64 0, .int .i64 0, .int .i64 0] 53) = w3 at *
  generalize w2.heap.size = xb at *
  have k0 : w3.cell? ⟨xb, 0, none⟩ = some (.int .i64 (KK : Int)) := HX.out.cell 0
  by_cases hk1 : KK = 1
  · skip
    subst hk1
    have HRS := Lib.hid (rdV_one HK1.out.1)
    rw [HK1.out.2] at HRS
    have HS0 : Hid (StepX w w3 b xb Q0 #[.int .i64 1, .string ⟨#[]⟩, .string ⟨#[]⟩, .int .i64 0, .int .i64 0, .int .i64 0]) := HX
    have k0 : w3.cell? ⟨xb, 0, none⟩ = some (.int .i64 1) := HS0.out.cell 0
    clear HX HK1
    obtain ⟨N1, hN1⟩ : ∃ N, (⟨(textS Q0).1.toArray⟩ : ByteArray) = N := ⟨_, rfl⟩
    obtain ⟨P1, hP1⟩ : ∃ Q, (textS Q0).2 = Q := ⟨_, rfl⟩
    rw [hN1, hP1] at HRS
    have htN1 : tv (textS Q0).1 = .string N1 := congrArg Value.string hN1
    have HTN1 := Lib.hid htN1
    clear htN1
    have HPN1 := Lib.hid hP1
    clear hN1 hP1
    go_wp2_with fail
    refine (rtextv_any HS0.out.rd).mono ?_
    rintro e wB0 ⟨rfl, hb10⟩
    rw [HTN1.out]
    rw [HPN1.out] at hb10
    have HC0 := Lib.hid (HS0.out.call hb10)
    clear hb10 k0
    have k0 : wB0.cell? ⟨xb, 1, none⟩ = some (.string ⟨#[]⟩) := HC0.out.cell 1
    have k1 := HC0.out.free 1
    have HS1 : Hid (StepX w (wB0.setCell ⟨xb, 1, none⟩ (.string N1)) b xb P1 #[.int .i64 1, .string N1, .string ⟨#[]⟩, .int .i64 0, .int .i64 0, .int .i64 0]) := HC0.out.store 1 _
    obtain ⟨N2, hN2⟩ : ∃ N, (intS 5 P1).1 = N := ⟨_, rfl⟩
    obtain ⟨P2, hP2⟩ : ∃ Q, (intS 5 P1).2 = Q := ⟨_, rfl⟩
    rw [hN2, hP2] at HRS
    have HTN2 := Lib.hid hN2
    have HPN2 := Lib.hid hP2
    clear hN2 hP2
    go_wp2_with fail
    refine (int_any HS1.out.rd 5 (by omega)).mono ?_
    rintro e wB1 ⟨rfl, hb11⟩
    rw [HTN2.out]
    rw [HPN2.out] at hb11
    have HC1 := Lib.hid (HS1.out.call hb11)
    clear hb11 k0
    have k0 : wB1.cell? ⟨xb, 3, none⟩ = some (.int .i64 0) := HC1.out.cell 3
    have k1 := HC1.out.free 3
    have HS2 : Hid (StepX w (wB1.setCell ⟨xb, 3, none⟩ (.int .i64 (N2 : Int))) b xb P2 #[.int .i64 1, .string N1, .string ⟨#[]⟩, .int .i64 (N2 : Int), .int .i64 0, .int .i64 0]) := HC1.out.store 3 _
    obtain ⟨N3, hN3⟩ : ∃ N, (⟨(textS P2).1.toArray⟩ : ByteArray) = N := ⟨_, rfl⟩
    obtain ⟨P3, hP3⟩ : ∃ Q, (textS P2).2 = Q := ⟨_, rfl⟩
    rw [hN3, hP3] at HRS
    have htN3 : tv (textS P2).1 = .string N3 := congrArg Value.string hN3
    have HTN3 := Lib.hid htN3
    clear htN3
    have HPN3 := Lib.hid hP3
    clear hN3 hP3
    go_wp2_with fail
    refine (rtextv_any HS2.out.rd).mono ?_
    rintro e wB2 ⟨rfl, hb12⟩
    rw [HTN3.out]
    rw [HPN3.out] at hb12
    have HC2 := Lib.hid (HS2.out.call hb12)
    clear hb12 k0
    have k0 : wB2.cell? ⟨xb, 2, none⟩ = some (.string ⟨#[]⟩) := HC2.out.cell 2
    have k1 := HC2.out.free 2
    have HS3 : Hid (StepX w (wB2.setCell ⟨xb, 2, none⟩ (.string N3)) b xb P3 #[.int .i64 1, .string N1, .string N3, .int .i64 (N2 : Int), .int .i64 0, .int .i64 0]) := HC2.out.store 2 _
    obtain ⟨N4, hN4⟩ : ∃ N, (intS 5 P3).1 = N := ⟨_, rfl⟩
    obtain ⟨P4, hP4⟩ : ∃ Q, (intS 5 P3).2 = Q := ⟨_, rfl⟩
    rw [hN4, hP4] at HRS
    have HTN4 := Lib.hid hN4
    have HPN4 := Lib.hid hP4
    clear hN4 hP4
    go_wp2_with fail
    refine (int_any HS3.out.rd 5 (by omega)).mono ?_
    rintro e wB3 ⟨rfl, hb13⟩
    rw [HTN4.out]
    rw [HPN4.out] at hb13
    have HC3 := Lib.hid (HS3.out.call hb13)
    clear hb13 k0
    have k0 : wB3.cell? ⟨xb, 4, none⟩ = some (.int .i64 0) := HC3.out.cell 4
    have k1 := HC3.out.free 4
    have HS4 : Hid (StepX w (wB3.setCell ⟨xb, 4, none⟩ (.int .i64 (N4 : Int))) b xb P4 #[.int .i64 1, .string N1, .string N3, .int .i64 (N2 : Int), .int .i64 (N4 : Int), .int .i64 0]) := HC3.out.store 4 _
    have y0 : (wB3.setCell ⟨xb, 4, none⟩ (.int .i64 (N4 : Int))).cell? ⟨xb, 0, none⟩ = some (.int .i64 1) := HS4.out.cell 0
    have y1 : (wB3.setCell ⟨xb, 4, none⟩ (.int .i64 (N4 : Int))).cell? ⟨xb, 1, none⟩ = some (.string N1) := HS4.out.cell 1
    have y2 : (wB3.setCell ⟨xb, 4, none⟩ (.int .i64 (N4 : Int))).cell? ⟨xb, 2, none⟩ = some (.string N3) := HS4.out.cell 2
    have y3 : (wB3.setCell ⟨xb, 4, none⟩ (.int .i64 (N4 : Int))).cell? ⟨xb, 3, none⟩ = some (.int .i64 (N2 : Int)) := HS4.out.cell 3
    have y4 : (wB3.setCell ⟨xb, 4, none⟩ (.int .i64 (N4 : Int))).cell? ⟨xb, 4, none⟩ = some (.int .i64 (N4 : Int)) := HS4.out.cell 4
    have y5 : (wB3.setCell ⟨xb, 4, none⟩ (.int .i64 (N4 : Int))).cell? ⟨xb, 5, none⟩ = some (.int .i64 0) := HS4.out.cell 5
    have q0 : (wB3.setCell ⟨xb, 4, none⟩ (.int .i64 (N4 : Int))).cell? ⟨w.heap.size, 0, none⟩ = some (.int .i64 0) := by rw [block_cell HS4.out.q]; rfl
    have q1 : (wB3.setCell ⟨xb, 4, none⟩ (.int .i64 (N4 : Int))).cell? ⟨w.heap.size, 1, none⟩ = some (.string ⟨#[]⟩) := by rw [block_cell HS4.out.q]; rfl
    have q2 : (wB3.setCell ⟨xb, 4, none⟩ (.int .i64 (N4 : Int))).cell? ⟨w.heap.size, 2, none⟩ = some (.string ⟨#[]⟩) := by rw [block_cell HS4.out.q]; rfl
    have q3 : (wB3.setCell ⟨xb, 4, none⟩ (.int .i64 (N4 : Int))).cell? ⟨w.heap.size, 3, none⟩ = some (.int .i64 0) := by rw [block_cell HS4.out.q]; rfl
    have q4 : (wB3.setCell ⟨xb, 4, none⟩ (.int .i64 (N4 : Int))).cell? ⟨w.heap.size, 4, none⟩ = some (.int .i64 0) := by rw [block_cell HS4.out.q]; rfl
    have q5 : (wB3.setCell ⟨xb, 4, none⟩ (.int .i64 (N4 : Int))).cell? ⟨w.heap.size, 5, none⟩ = some (.int .i64 0) := by rw [block_cell HS4.out.q]; rfl
    have f0 := block_free HS4.out.q 0
    have f1 := block_free HS4.out.q 1
    have f2 := block_free HS4.out.q 2
    have f3 := block_free HS4.out.q 3
    have f4 := block_free HS4.out.q 4
    have f5 := block_free HS4.out.q 5
    go_wp2
    (try simp only [Exit.inBlock, Exit.then])
    refine bodyPost_ret (v := .agg #[.int .i64 1, .string N1, .string N3, .int .i64 (N2 : Int), .int .i64 (N4 : Int), .int .i64 0]) ?_ rfl ⟨by rw [HRS.out]; rfl, ?_⟩
    · rw [results_cell12 rfl]
      go_simp
    · rw [HRS.out]
      exact HS4.out.ends _ _ _ _ _ _
  · by_cases hk2 : KK = 2
    · skip
      subst hk2
      have HRS := Lib.hid (rdV_two HK1.out.1)
      rw [HK1.out.2] at HRS
      have HS0 : Hid (StepX w w3 b xb Q0 #[.int .i64 2, .string ⟨#[]⟩, .string ⟨#[]⟩, .int .i64 0, .int .i64 0, .int .i64 0]) := HX
      have k0 : w3.cell? ⟨xb, 0, none⟩ = some (.int .i64 2) := HS0.out.cell 0
      clear HX HK1
      obtain ⟨N1, hN1⟩ : ∃ N, (intS 1000 Q0).1 = N := ⟨_, rfl⟩
      obtain ⟨P1, hP1⟩ : ∃ Q, (intS 1000 Q0).2 = Q := ⟨_, rfl⟩
      rw [hN1, hP1] at HRS
      have HTN1 := Lib.hid hN1
      have HPN1 := Lib.hid hP1
      clear hN1 hP1
      go_wp2_with fail
      refine (int_any HS0.out.rd 1000 (by omega)).mono ?_
      rintro e wB0 ⟨rfl, hb10⟩
      rw [HTN1.out]
      rw [HPN1.out] at hb10
      have HC0 := Lib.hid (HS0.out.call hb10)
      clear hb10 k0
      have k0 : wB0.cell? ⟨xb, 5, none⟩ = some (.int .i64 0) := HC0.out.cell 5
      have k1 := HC0.out.free 5
      have HS1 : Hid (StepX w (wB0.setCell ⟨xb, 5, none⟩ (.int .i64 (N1 : Int))) b xb P1 #[.int .i64 2, .string ⟨#[]⟩, .string ⟨#[]⟩, .int .i64 0, .int .i64 0, .int .i64 (N1 : Int)]) := HC0.out.store 5 _
      have y0 : (wB0.setCell ⟨xb, 5, none⟩ (.int .i64 (N1 : Int))).cell? ⟨xb, 0, none⟩ = some (.int .i64 2) := HS1.out.cell 0
      have y1 : (wB0.setCell ⟨xb, 5, none⟩ (.int .i64 (N1 : Int))).cell? ⟨xb, 1, none⟩ = some (.string ⟨#[]⟩) := HS1.out.cell 1
      have y2 : (wB0.setCell ⟨xb, 5, none⟩ (.int .i64 (N1 : Int))).cell? ⟨xb, 2, none⟩ = some (.string ⟨#[]⟩) := HS1.out.cell 2
      have y3 : (wB0.setCell ⟨xb, 5, none⟩ (.int .i64 (N1 : Int))).cell? ⟨xb, 3, none⟩ = some (.int .i64 0) := HS1.out.cell 3
      have y4 : (wB0.setCell ⟨xb, 5, none⟩ (.int .i64 (N1 : Int))).cell? ⟨xb, 4, none⟩ = some (.int .i64 0) := HS1.out.cell 4
      have y5 : (wB0.setCell ⟨xb, 5, none⟩ (.int .i64 (N1 : Int))).cell? ⟨xb, 5, none⟩ = some (.int .i64 (N1 : Int)) := HS1.out.cell 5
      have q0 : (wB0.setCell ⟨xb, 5, none⟩ (.int .i64 (N1 : Int))).cell? ⟨w.heap.size, 0, none⟩ = some (.int .i64 0) := by rw [block_cell HS1.out.q]; rfl
      have q1 : (wB0.setCell ⟨xb, 5, none⟩ (.int .i64 (N1 : Int))).cell? ⟨w.heap.size, 1, none⟩ = some (.string ⟨#[]⟩) := by rw [block_cell HS1.out.q]; rfl
      have q2 : (wB0.setCell ⟨xb, 5, none⟩ (.int .i64 (N1 : Int))).cell? ⟨w.heap.size, 2, none⟩ = some (.string ⟨#[]⟩) := by rw [block_cell HS1.out.q]; rfl
      have q3 : (wB0.setCell ⟨xb, 5, none⟩ (.int .i64 (N1 : Int))).cell? ⟨w.heap.size, 3, none⟩ = some (.int .i64 0) := by rw [block_cell HS1.out.q]; rfl
      have q4 : (wB0.setCell ⟨xb, 5, none⟩ (.int .i64 (N1 : Int))).cell? ⟨w.heap.size, 4, none⟩ = some (.int .i64 0) := by rw [block_cell HS1.out.q]; rfl
      have q5 : (wB0.setCell ⟨xb, 5, none⟩ (.int .i64 (N1 : Int))).cell? ⟨w.heap.size, 5, none⟩ = some (.int .i64 0) := by rw [block_cell HS1.out.q]; rfl
      have f0 := block_free HS1.out.q 0
      have f1 := block_free HS1.out.q 1
      have f2 := block_free HS1.out.q 2
      have f3 := block_free HS1.out.q 3
      have f4 := block_free HS1.out.q 4
      have f5 := block_free HS1.out.q 5
      go_wp2
      (try simp only [Exit.inBlock, Exit.then])
      refine bodyPost_ret (v := .agg #[.int .i64 2, .string ⟨#[]⟩, .string ⟨#[]⟩, .int .i64 0, .int .i64 0, .int .i64 (N1 : Int)]) ?_ rfl ⟨by rw [HRS.out]; rfl, ?_⟩
      · rw [results_cell12 rfl]
        go_simp
      · rw [HRS.out]
        exact HS1.out.ends _ _ _ _ _ _
    · by_cases hk3 : KK = 3
      · skip
        subst hk3
        have HRS := Lib.hid (rdV_three HK1.out.1)
        rw [HK1.out.2] at HRS
        have HS0 : Hid (StepX w w3 b xb Q0 #[.int .i64 3, .string ⟨#[]⟩, .string ⟨#[]⟩, .int .i64 0, .int .i64 0, .int .i64 0]) := HX
        have k0 : w3.cell? ⟨xb, 0, none⟩ = some (.int .i64 3) := HS0.out.cell 0
        clear HX HK1
        obtain ⟨N1, hN1⟩ : ∃ N, (⟨(textS Q0).1.toArray⟩ : ByteArray) = N := ⟨_, rfl⟩
        obtain ⟨P1, hP1⟩ : ∃ Q, (textS Q0).2 = Q := ⟨_, rfl⟩
        rw [hN1, hP1] at HRS
        have htN1 : tv (textS Q0).1 = .string N1 := congrArg Value.string hN1
        have HTN1 := Lib.hid htN1
        clear htN1
        have HPN1 := Lib.hid hP1
        clear hN1 hP1
        go_wp2_with fail
        refine (rtextv_any HS0.out.rd).mono ?_
        rintro e wB0 ⟨rfl, hb10⟩
        rw [HTN1.out]
        rw [HPN1.out] at hb10
        have HC0 := Lib.hid (HS0.out.call hb10)
        clear hb10 k0
        have k0 : wB0.cell? ⟨xb, 1, none⟩ = some (.string ⟨#[]⟩) := HC0.out.cell 1
        have k1 := HC0.out.free 1
        have HS1 : Hid (StepX w (wB0.setCell ⟨xb, 1, none⟩ (.string N1)) b xb P1 #[.int .i64 3, .string N1, .string ⟨#[]⟩, .int .i64 0, .int .i64 0, .int .i64 0]) := HC0.out.store 1 _
        have y0 : (wB0.setCell ⟨xb, 1, none⟩ (.string N1)).cell? ⟨xb, 0, none⟩ = some (.int .i64 3) := HS1.out.cell 0
        have y1 : (wB0.setCell ⟨xb, 1, none⟩ (.string N1)).cell? ⟨xb, 1, none⟩ = some (.string N1) := HS1.out.cell 1
        have y2 : (wB0.setCell ⟨xb, 1, none⟩ (.string N1)).cell? ⟨xb, 2, none⟩ = some (.string ⟨#[]⟩) := HS1.out.cell 2
        have y3 : (wB0.setCell ⟨xb, 1, none⟩ (.string N1)).cell? ⟨xb, 3, none⟩ = some (.int .i64 0) := HS1.out.cell 3
        have y4 : (wB0.setCell ⟨xb, 1, none⟩ (.string N1)).cell? ⟨xb, 4, none⟩ = some (.int .i64 0) := HS1.out.cell 4
        have y5 : (wB0.setCell ⟨xb, 1, none⟩ (.string N1)).cell? ⟨xb, 5, none⟩ = some (.int .i64 0) := HS1.out.cell 5
        have q0 : (wB0.setCell ⟨xb, 1, none⟩ (.string N1)).cell? ⟨w.heap.size, 0, none⟩ = some (.int .i64 0) := by rw [block_cell HS1.out.q]; rfl
        have q1 : (wB0.setCell ⟨xb, 1, none⟩ (.string N1)).cell? ⟨w.heap.size, 1, none⟩ = some (.string ⟨#[]⟩) := by rw [block_cell HS1.out.q]; rfl
        have q2 : (wB0.setCell ⟨xb, 1, none⟩ (.string N1)).cell? ⟨w.heap.size, 2, none⟩ = some (.string ⟨#[]⟩) := by rw [block_cell HS1.out.q]; rfl
        have q3 : (wB0.setCell ⟨xb, 1, none⟩ (.string N1)).cell? ⟨w.heap.size, 3, none⟩ = some (.int .i64 0) := by rw [block_cell HS1.out.q]; rfl
        have q4 : (wB0.setCell ⟨xb, 1, none⟩ (.string N1)).cell? ⟨w.heap.size, 4, none⟩ = some (.int .i64 0) := by rw [block_cell HS1.out.q]; rfl
        have q5 : (wB0.setCell ⟨xb, 1, none⟩ (.string N1)).cell? ⟨w.heap.size, 5, none⟩ = some (.int .i64 0) := by rw [block_cell HS1.out.q]; rfl
        have f0 := block_free HS1.out.q 0
        have f1 := block_free HS1.out.q 1
        have f2 := block_free HS1.out.q 2
        have f3 := block_free HS1.out.q 3
        have f4 := block_free HS1.out.q 4
        have f5 := block_free HS1.out.q 5
        go_wp2
        (try simp only [Exit.inBlock, Exit.then])
        refine bodyPost_ret (v := .agg #[.int .i64 3, .string N1, .string ⟨#[]⟩, .int .i64 0, .int .i64 0, .int .i64 0]) ?_ rfl ⟨by rw [HRS.out]; rfl, ?_⟩
        · rw [results_cell12 rfl]
          go_simp
        · rw [HRS.out]
          exact HS1.out.ends _ _ _ _ _ _
      · skip
        have HRS := Lib.hid (rdV_else (R := R) (by rw [HK1.out.1]; exact hk1) (by rw [HK1.out.1]; exact hk2) (by rw [HK1.out.1]; exact hk3))
        rw [HK1.out.1] at HRS
        have hb1 : ((KK : Int) == 1) = false := by rw [beq_eq_false_iff_ne]; omega
        have hb2 : ((KK : Int) == 2) = false := by rw [beq_eq_false_iff_ne]; omega
        have hb3 : ((KK : Int) == 3) = false := by rw [beq_eq_false_iff_ne]; omega
        rw [HK1.out.2] at HRS
        have HS0 : Hid (StepX w w3 b xb Q0 #[.int .i64 (KK : Int), .string ⟨#[]⟩, .string ⟨#[]⟩, .int .i64 0, .int .i64 0, .int .i64 0]) := HX
        clear HX HK1
        have y0 : w3.cell? ⟨xb, 0, none⟩ = some (.int .i64 (KK : Int)) := HS0.out.cell 0
        have y1 : w3.cell? ⟨xb, 1, none⟩ = some (.string ⟨#[]⟩) := HS0.out.cell 1
        have y2 : w3.cell? ⟨xb, 2, none⟩ = some (.string ⟨#[]⟩) := HS0.out.cell 2
        have y3 : w3.cell? ⟨xb, 3, none⟩ = some (.int .i64 0) := HS0.out.cell 3
        have y4 : w3.cell? ⟨xb, 4, none⟩ = some (.int .i64 0) := HS0.out.cell 4
        have y5 : w3.cell? ⟨xb, 5, none⟩ = some (.int .i64 0) := HS0.out.cell 5
        have q0 : w3.cell? ⟨w.heap.size, 0, none⟩ = some (.int .i64 0) := by rw [block_cell HS0.out.q]; rfl
        have q1 : w3.cell? ⟨w.heap.size, 1, none⟩ = some (.string ⟨#[]⟩) := by rw [block_cell HS0.out.q]; rfl
        have q2 : w3.cell? ⟨w.heap.size, 2, none⟩ = some (.string ⟨#[]⟩) := by rw [block_cell HS0.out.q]; rfl
        have q3 : w3.cell? ⟨w.heap.size, 3, none⟩ = some (.int .i64 0) := by rw [block_cell HS0.out.q]; rfl
        have q4 : w3.cell? ⟨w.heap.size, 4, none⟩ = some (.int .i64 0) := by rw [block_cell HS0.out.q]; rfl
        have q5 : w3.cell? ⟨w.heap.size, 5, none⟩ = some (.int .i64 0) := by rw [block_cell HS0.out.q]; rfl
        have f0 := block_free HS0.out.q 0
        have f1 := block_free HS0.out.q 1
        have f2 := block_free HS0.out.q 2
        have f3 := block_free HS0.out.q 3
        have f4 := block_free HS0.out.q 4
        have f5 := block_free HS0.out.q 5
        go_wp2
        (try simp only [Exit.inBlock, Exit.then])
        refine bodyPost_ret (v := .agg #[.int .i64 (KK : Int), .string ⟨#[]⟩, .string ⟨#[]⟩, .int .i64 0, .int .i64 0, .int .i64 0]) ?_ rfl ⟨by rw [HRS.out]; rfl, ?_⟩
        · rw [results_cell12 rfl]
          go_simp
        · rw [HRS.out]
          exact HS0.out.ends _ _ _ _ _ _
end Go.Proofs.Ytlkfpeefjpmmfaa

namespace Go.Proofs.Ytlkfpeefjpmmfaa
open Go.RowKit
set_option linter.unusedVariables false

def pAct : ProgS := ⟨[⟨1, ⟨#[97]⟩, ⟨#[]⟩, 1, 0, 0⟩], 0⟩
theorem pAct_ok : progB pAct = true := by decide
theorem pAct_enc : encS pAct = ⟨#[0, 1, 1, 1, 97, 1, 0, 0]⟩ := by
  unfold encS
  rw [if_pos pAct_ok]
  have h0 : putL 0 = [0] := putL_lt (by omega)
  have h1 : putL 1 = [1] := putL_lt (by omega)
  have e : encProg pAct = [0, 1, 1, 1, 97, 1, 0, 0] := by
    unfold encProg encSteps encStep textL pAct
    simp only [List.flatMap_cons, List.flatMap_nil, List.length_cons, List.length_nil, if_true]
    show putL 0 ++ putL 1 ++ (putL 1 ++ (putL 1 ++ [97] ++ putL 1 ++ (putL 0 ++ []) ++ putL 0) ++ []) = _
    rw [h0, h1]
    rfl
  rw [e]
  rfl
theorem pAct_zero : encE pAct = 0 := if_pos pAct_ok
def pBad : ProgS := ⟨[], -1⟩
theorem pBad_no : encE pBad = 130 := if_neg (by decide)
theorem ReadG.nil (w : World) : ReadG w (.slice none 0 0) [] := ⟨by simp [maxLen], fun x hx => (by cases hx), none, 0, rfl, .inl rfl⟩
theorem ReadG.one {w : World} {b : Nat} (x : StepS) (h : w.heap[b]? = some (.cells #[.int .i64 x.kind, .string x.name, .string x.undo, .int .i64 x.tries, .int .i64 x.undoTries, .int .i64 x.wait] 53 (0, 0))) (hn : x.name.size ≤ maxLen) (hu : x.undo.size ≤ maxLen) : ReadG w (.slice (some ⟨b, 0, none⟩) 1 1) [x] := by
  refine ⟨by simp [maxLen], fun y hy => by rw [List.mem_singleton.1 hy]; exact ⟨hn, hu⟩, _, _, rfl, .inr ⟨b, 0, rfl, fun i hi j u hu => ?_⟩⟩
  have hi0 : i = 0 := by simp at hi; exact hi
  subst hi0
  rw [block_cell h]
  match j, hu with
  | 0, hu | 1, hu | 2, hu | 3, hu | 4, hu | 5, hu => exact hu
theorem dec_enc {p q : ProgS} {E : Nat} (hp : progB p = true) (h : DecEnd (encS p) q E) : q = p ∧ E = 0 := by
  have hs : (encS p).data.toList = encProg p := by unfold encS; rw [if_pos hp]; simp [bx]
  unfold DecEnd at h
  rw [hs, okB_prog hp, rd_prog hp] at h
  rcases h with ⟨_, h1, h2⟩ | ⟨h, _⟩
  · exact ⟨h1, h2⟩
  · cases h
theorem dec_one {s : ByteArray} {p q : ProgS} {E F : Nat} (h : DecEnd s p E) (k : DecEnd s q F) : q = p ∧ F = E := by
  rcases h with ⟨a, b, c⟩ | ⟨a, b, c⟩ <;> rcases k with ⟨d, e, f⟩ | ⟨d, e, f⟩
  · exact ⟨e.trans b.symm, f.trans c.symm⟩
  · rw [a] at d; cases d
  · rw [a] at d; cases d
  · exact ⟨e.trans b.symm, f.trans c.symm⟩
/-- What was read is a program, and these are its bytes. -/
theorem dec_is {s : ByteArray} {p : ProgS} {E : Nat} (h : DecEnd s p E) : (E = 0 ∧ progB p = true ∧ encS p = s ∧ encE p = 0) ∨ (E = 60 ∧ p = ⟨[], 0⟩) := by
  rcases h with ⟨a, b, c⟩ | ⟨_, b, c⟩
  · refine .inl ⟨c, ?_⟩
    obtain ⟨q, hq, he⟩ := (okB_iff _).1 a
    have := (rd_is hq he).1
    rw [this] at b
    subst b
    refine ⟨hq, ?_, if_pos hq⟩
    unfold encS bx
    rw [if_pos hq, he]
  · exact .inr ⟨c, b⟩

end Go.Proofs.Ytlkfpeefjpmmfaa

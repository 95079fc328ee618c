/- Layer 12: contracts of the program's Check, number, stepBytes. -/
import Derived.Test.YthliofijioghkaaW12
import Derived.Test.YthliofijioghkaaR12e
namespace Go.Proofs.Ythliofijioghkaa
open Go.RowKit
set_option linter.unusedVariables false

set_option maxHeartbeats 4000000 in
set_option maxRecDepth 100000 in
theorem check_any {w : World} {a : Option Addr} {c : Nat} (p : ProgS) (h : ReadG w (.slice a p.steps.length c) p.steps) :
    Calls Try.prog 59 #[p.val' a c] w fun e w' => e = .returned (.int .i64 (encE p : Nat)) ∧ Below w.heap.size w w' := by
  obtain ⟨l, lim⟩ := p
  have hml : l.length ≤ 9223372036854775807 := by have := h.1; unfold maxLen at this; omega
  have HP : Hid (progB ⟨l, lim⟩ = (decide (l.length ≤ 16) && inB lim 0 16000 && l.all stepB)) := rfl
  have HE1 : Hid (progB ⟨l, lim⟩ = true → encE ⟨l, lim⟩ = 0) := fun h => if_pos h
  have HE2 : Hid (progB ⟨l, lim⟩ = false → encE ⟨l, lim⟩ = 130) := fun h => if_neg (by rw [h]; decide)
  generalize progB ⟨l, lim⟩ = PB at *
  generalize encE ⟨l, lim⟩ = EE at *
  have hb0 : Below w.heap.size w (w.alloc (.cells #[.slice a l.length c, .int .i64 lim] 79)) := (Below.refl _ w).alloc (Nat.le_refl _) _
  have hnw := heap_alloc_new w (.cells #[.slice a l.length c, .int .i64 lim] 79)
  have HNW := Lib.hid hnw
  have H := Lib.hid (h.below hb0)
  have HB := Lib.hid hb0
  have c0 := (block_cell hnw 0).trans rfl
  have c1 := (block_cell hnw 1).trans rfl
  unfold ProgS.val'
  simp only
  clear h hb0 hnw
  go_enter Try.func59, Try.ntmps59
  by_cases h16 : (16 : Int) < (l.length : Int)
  · have HN : Hid (EE = 130) := HE2.out (by rw [HP.out]; simp; omega)
    go_wp2
    go_ret
    exact ⟨by rw [HN.out]; rfl, HB.out⟩
  · by_cases hn0 : lim < 0
    · have HN : Hid (EE = 130) := HE2.out (by rw [HP.out]; simp [inB]; omega)
      go_wp2
      go_ret
      exact ⟨by rw [HN.out]; rfl, HB.out⟩
    · by_cases hn1 : (16000 : Int) < lim
      · have HN : Hid (EE = 130) := HE2.out (by rw [HP.out]; simp [inB]; omega)
        go_wp2
        go_ret
        exact ⟨by rw [HN.out]; rfl, HB.out⟩
      · have HIN : Hid (inB lim 0 16000 = true ∧ l.length ≤ 16) := ⟨by rw [inB_iff]; omega, by omega⟩
        go_wp2
        clear c1 hn0 hn1
        generalize w.alloc (.cells #[.slice a l.length c, .int .i64 lim] 79) = w0 at *
        go_loopw [22] (fun iv wr => ∃ i : Nat, i ≤ l.length ∧ iv = .int .i64 (i : Int) ∧ Hid (Below w0.heap.size w0 wr ∧ (l.take i).all stepB = true)) (fun iv _ => l.length - (intOf iv).toNat)
        case atStart => exact ⟨0, Nat.zero_le _, rfl, Below.refl _ _, rfl⟩
        case round =>
          obtain ⟨i, hi, rfl, HI⟩ := hrel
          by_cases hlt : i < l.length
          · obtain ⟨b, o, rfl, q0, q1, q2, q3, q4, q5, s1, s2⟩ := (H.out.below HI.out.1).at hlt
            have HT := Lib.hid (all_steps hlt)
            have HN := Lib.hid (all_not hlt)
            have hmes : l.length - (intOf (.int .i64 ((i : Int) + 1))).toNat < l.length - (intOf (.int .i64 (i : Int))).toNat := by simp [intOf]; omega
            have hst := fun w => isStep_any l[i] s1 s2 w
            generalize l[i] = x at *
            obtain ⟨w1, hw1⟩ : ∃ w1, wr.alloc (.cells #[.int .i64 x.kind, .string x.name, .string x.undo, .int .i64 x.tries, .int .i64 x.undoTries, .int .i64 x.wait] 93) = w1 := ⟨_, rfl⟩
            have hb1 : Below wr.heap.size wr w1 := by rw [← hw1]; exact (Below.refl _ _).alloc (Nat.le_refl _) _
            have hn1 : w1.heap[wr.heap.size]? = some (.cells #[.int .i64 x.kind, .string x.name, .string x.undo, .int .i64 x.tries, .int .i64 x.undoTries, .int .i64 x.wait] 93 (0, 0)) := by rw [← hw1]; exact heap_alloc_new _ _
            have d0 := (block_cell hn1 0).trans rfl
            have d1 := (block_cell hn1 1).trans rfl
            have d2 := (block_cell hn1 2).trans rfl
            have d3 := (block_cell hn1 3).trans rfl
            have d4 := (block_cell hn1 4).trans rfl
            have d5 := (block_cell hn1 5).trans rfl
            have HB1 := Lib.hid (HI.out.1.trans (hb1.mono HI.out.1.size))
            unfold StepS.val' at hst
            have HST := Lib.hid hst
            clear hst hb1 hn1
            go_wp2_with fail
            refine (HST.out _).mono ?_
            rintro e w2 ⟨rfl, b2⟩
            have HB2 := Lib.hid (HB1.out.trans (b2.mono HB1.out.size))
            by_cases hx : stepB x = true
            · rw [hx]
              have HA : Hid ((l.take (i + 1)).all stepB = true) := by show _ = _; rw [HT.out, HI.out.2, hx]; rfl
              clear hx q0 q1 q2 q3 q4 q5 b2 d0 d1 d2 d3 d4 d5
              go_wp2
              go_roundw
              case rel => exact ⟨i + 1, by omega, by go_num, HB2.out, HA.out⟩
              case measure => exact hmes
            · rw [Bool.not_eq_true] at hx
              rw [hx]
              have HA := Lib.hid (HN.out hx)
              have HF : Hid (EE = 130) := HE2.out (by rw [HP.out, HA.out]; simp)
              clear hx q0 q1 q2 q3 q4 q5 b2 d0 d1 d2 d3 d4 d5
              go_wp2
              go_ret
              exact ⟨by rw [HF.out]; rfl, HB.out.trans (HB2.out.mono HB.out.size)⟩
          · obtain rfl : i = l.length := by omega
            have HA : Hid (l.all stepB = true) := by have := HI.out.2; rwa [List.take_length] at this
            have HF : Hid (EE = 0) := HE1.out (by rw [HP.out, HA.out, HIN.out.1]; simp; exact HIN.out.2)
            go_wp2
            go_ret
            exact ⟨by rw [HF.out]; rfl, HB.out.trans (HI.out.1.mono HB.out.size)⟩

theorem text_bx (s : ByteArray) (hs : s.size ≤ 140737488355328) (w : World) :
    Calls Try.prog 23 #[.string s] w fun e w' => e = .returned (.string (bx (textL s))) ∧ Below w.heap.size w w' := text_any s hs w
end Go.Proofs.Ythliofijioghkaa

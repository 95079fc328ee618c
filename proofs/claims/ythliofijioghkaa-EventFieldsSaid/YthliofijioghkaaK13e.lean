/- Layer 13: the walk of EventFields, whatever the program. -/
import Derived.Test.YthliofijioghkaaK13d
import Derived.Test.YthliofijioghkaaI20
namespace Go.Proofs.Ythliofijioghkaa
open Go.RowKit Go.BigFrame
set_option linter.unusedVariables false

theorem cells16 {w : World} {b b' : Nat} {e x : EvS} (h : EvBox w b e) (h' : EvBox w b' x) : (w.cell? ⟨b, 0, none⟩ = some (.int .i64 e.id) ∧ w.cell? ⟨b, 1, none⟩ = some (.int .i64 e.kind) ∧ w.cell? ⟨b, 2, none⟩ = some (.int .i64 e.tick) ∧ w.cell? ⟨b, 3, none⟩ = some (.int .i64 e.ref) ∧
    w.cell? ⟨b, 4, none⟩ = some (.int .i64 e.step) ∧ w.cell? ⟨b, 5, none⟩ = some (.int .i64 e.tryN) ∧ w.cell? ⟨b, 6, none⟩ = some (.bool e.undo) ∧ w.cell? ⟨b, 7, none⟩ = some (.string e.data)) ∧
    w.cell? ⟨b', 0, none⟩ = some (.int .i64 x.id) ∧ w.cell? ⟨b', 1, none⟩ = some (.int .i64 x.kind) ∧ w.cell? ⟨b', 2, none⟩ = some (.int .i64 x.tick) ∧ w.cell? ⟨b', 3, none⟩ = some (.int .i64 x.ref) ∧
    w.cell? ⟨b', 4, none⟩ = some (.int .i64 x.step) ∧ w.cell? ⟨b', 5, none⟩ = some (.int .i64 x.tryN) ∧ w.cell? ⟨b', 6, none⟩ = some (.bool x.undo) ∧ w.cell? ⟨b', 7, none⟩ = some (.string x.data) := ⟨h.c, h'.c⟩
theorem EvBox.store {w : World} {b : Nat} {e e' : EvS} (h : EvBox w b e) (i : Nat) (u : Value) (he : e'.arr = e.arr.setIfInBounds i u) : EvBox (w.setCell ⟨b, i, none⟩ u) b e' := by
  unfold EvBox
  rw [he]
  exact block_set h i u
theorem EvBox.other {w : World} {b b' : Nat} {e : EvS} (h : EvBox w b e) (hb : b ≠ b') (i : Nat) (u : Value) : EvBox (w.setCell ⟨b', i, none⟩ u) b e := by
  unfold EvBox
  rw [Below.heap_setCell _ _ _ _ (by first | exact hb | exact hb.symm)]
  exact h

theorem EvBox.later' {w w' : World} {b : Nat} {e : EvS} (t : Below w.heap.size w w') (h : EvBox w b e) : EvBox w' b e := h.later t

set_option maxHeartbeats 4000000 in
set_option maxRecDepth 100000 in
theorem fields13_walk (K : EventK) (e : EvS) (which : Int) (w : World) (hd : e.data.size ≤ 140737488351232) (hw : (Lit.int .i64 which).wf = true) :
    Calls Try.prog 7 #[e.val', .int .i64 which] w fun x w' => x = .returned (.bool true) ∧ Below w.heap.size w w' := by
  have hnb := bounds_i64 hw
  obtain ⟨m, hm5, hkey⟩ := mod_key which
  have hck := fun w => K.check e w hd
  have HMS : Hid (evB e = true → modE m e ≠ e → (e.kind = 6 ∧ (m = 1 ∨ m = 3) ∧ evB (modE m e) = true) ∨ (e.kind = 10 ∧ m = 1 ∧ evB (modE m e) = true) ∨ (e.kind = 10 ∧ m = 3 ∧ evB (modE m e) = false) ∨ (e.kind ≠ 6 ∧ e.kind ≠ 10 ∧ evB (modE m e) = false)) := Lib.hid fun h1 h2 => mod_is h1 h2 hm5
  have hdx : (modE m e).data.size ≤ 140737488351232 := by
    match m, hm5 with
    | 0, _ | 1, _ | 2, _ | 3, _ => exact hd
    | 4, _ => exact Nat.zero_le _
  have hcx := fun w => K.check (modE m e) w hdx
  have HEL := Lib.hid (ev_eql (modE m e) e)
  obtain ⟨w1, hw1, b1, x1, s1⟩ := evBoxed w e
  have X1 := Lib.hid x1
  have B1 := Lib.hid b1
  unfold EvS.val' at *
  have HCX := Lib.hid hcx
  have HCK := Lib.hid hck
  clear hck hcx x1 b1 hw hd hdx
  go_enter Try.func7, Try.ntmps7
  go_wp2_with fail
  refine (awake13_any K _).mono ?_
  rintro x w2 ⟨rfl, b2⟩
  have B2 := Lib.hid (B1.out.trans (b2.mono B1.out.size))
  have X2 := Lib.hid (X1.out.later b2)
  have hs2 : w.heap.size < w2.heap.size := X2.out.lt
  clear b2 s1
  obtain ⟨q0, q1, q2, q3, q4, q5, q6, q7⟩ := X2.out.c
  go_wp2_with fail
  refine (HCK.out _).mono ?_
  rintro x w3 ⟨rfl, b3⟩
  have B3 := Lib.hid (B2.out.trans (b3.mono B2.out.size))
  have X3 := Lib.hid (X2.out.later b3)
  have hs3 : w.heap.size < w3.heap.size := X3.out.lt
  clear b3 q0 q1 q2 q3 q4 q5 q6 q7 hs2
  obtain ⟨q0, q1, q2, q3, q4, q5, q6, q7⟩ := X3.out.c
  cases hp : evB e with
  | false =>
    have hE : encEE e = 120 := if_neg (by rw [hp]; decide)
    rw [hE]
    clear hE hp
    go_wp2
    go_ret
    exact ⟨rfl, B3.out⟩
  | true =>
    have hE : encEE e = 0 := if_pos hp
    rw [hE]
    have HP := Lib.hid hp
    clear hE hp
    obtain ⟨w4, hw4, b4, x4, s4⟩ := evBoxed w3 e
    have B4 := Lib.hid (B3.out.trans (b4.mono B3.out.size))
    have X4e := Lib.hid (X3.out.later b4)
    have X4 := Lib.hid x4
    clear b4 x4
    obtain ⟨D, hD⟩ : ∃ D, decide (modE m e = e) = D := ⟨_, rfl⟩
    obtain ⟨EX, hEX⟩ : ∃ EX, encEE (modE m e) = EX := ⟨_, rfl⟩
    have hF : (D = true ∧ EX = 0) ∨ (D = false ∧ ((e.kind = 6 ∧ (m = 1 ∨ m = 3) ∧ EX = 0) ∨ (e.kind = 10 ∧ m = 1 ∧ EX = 0) ∨ (e.kind = 10 ∧ m = 3 ∧ EX = 120) ∨ (e.kind ≠ 6 ∧ e.kind ≠ 10 ∧ EX = 120))) := by
      by_cases hx : modE m e = e
      · exact .inl ⟨by rw [← hD, decide_eq_true hx], by rw [← hEX, hx]; exact if_pos HP.out⟩
      · refine .inr ⟨by rw [← hD, decide_eq_false hx], ?_⟩
        have yes : evB (modE m e) = true → EX = 0 := fun h => by rw [← hEX]; exact if_pos h
        have no : evB (modE m e) = false → EX = 120 := fun h => by rw [← hEX]; exact if_neg (by rw [h]; decide)
        rcases HMS.out HP.out hx with ⟨h1, h2, h3⟩ | ⟨h1, h2, h3⟩ | ⟨h1, h2, h3⟩ | ⟨h1, h2, h3⟩
        · exact .inl ⟨h1, h2, yes h3⟩
        · exact .inr (.inl ⟨h1, h2, yes h3⟩)
        · exact .inr (.inr (.inl ⟨h1, h2, no h3⟩))
        · exact .inr (.inr (.inr ⟨h1, h2, no h3⟩))
    rw [hD] at HEL
    rw [hEX] at HCX
    have HF := Lib.hid hF
    clear hF hD hEX HMS HP
    go_upto_region 8 with (fail)
    rw [hkey.out]
    clear hkey
    have hne : w.heap.size ≠ w3.heap.size := by omega
    have hm6 : m = 0 ∨ m = 1 ∨ m = 2 ∨ m = 3 ∨ m = 4 := by omega
    clear hm5
    rcases hm6 with rfl | rfl | rfl | rfl | rfl
    · have c5 := X4.out.c
      have f5 := block_free X4.out 3
      have X5 := Lib.hid (X4.out.store (e' := modE 0 e) 3 (.int .i64 0) rfl)
      have E5 := Lib.hid (X4e.out.other hne 3 (.int .i64 0))
      have B5 := Lib.hid (B4.out.setCell (p := ⟨w3.heap.size, 3, none⟩) (by simp only; omega) (.int .i64 0))
      obtain ⟨id, kind, tick, ref, step, tryN, undo, data⟩ := e
      simp only [modE] at HEL HCX X5 E5 HF c5
      obtain ⟨q0, q1, q2, q3, q4, q5, q6, q7⟩ := c5
      go_upto_region 16 with (fail)
      generalize w4.setCell ⟨w3.heap.size, 3, none⟩ (.int .i64 0) = w5 at *
      have hel := HEL.out
      clear q0 q1 q2 q3 q4 q5 q6 q7 f5
      obtain ⟨g0, g1, g2, g3, g4, g5, g6, g7⟩ := E5.out.c
      obtain ⟨p0, p1, p2, p3, p4, p5, p6, p7⟩ := X5.out.c
      have hc : ∀ y : BW w5, _ := fun y => cells16 (E5.out.later y.below) (X5.out.later y.below)
      have u0 := fun y => (hc y).1.1
      have u1 := fun y => (hc y).1.2.1
      have u2 := fun y => (hc y).1.2.2.1
      have u3 := fun y => (hc y).1.2.2.2.1
      have u4 := fun y => (hc y).1.2.2.2.2.1
      have u5 := fun y => (hc y).1.2.2.2.2.2.1
      have u6 := fun y => (hc y).1.2.2.2.2.2.2.1
      have u7 := fun y => (hc y).1.2.2.2.2.2.2.2
      have v0 := fun y => (hc y).2.1
      have v1 := fun y => (hc y).2.2.1
      have v2 := fun y => (hc y).2.2.2.1
      have v3 := fun y => (hc y).2.2.2.2.1
      have v4 := fun y => (hc y).2.2.2.2.2.1
      have v5 := fun y => (hc y).2.2.2.2.2.2.1
      have v6 := fun y => (hc y).2.2.2.2.2.2.2.1
      have v7 := fun y => (hc y).2.2.2.2.2.2.2.2
      clear hc
      rcases HF.out with ⟨rfl, rfl⟩ | ⟨rfl, hk⟩
      · go_wp2_with fail
        refine (HCX.out _).mono ?_
        rintro x w9 ⟨rfl, b9⟩
        go_wp2
        go_ret
        exact ⟨rfl, B5.out.trans (b9.mono B5.out.size)⟩
      · rcases hk with ⟨rfl, hm, rfl⟩ | ⟨rfl, hm, rfl⟩ | ⟨rfl, hm, rfl⟩ | ⟨hk6, hk10, rfl⟩
        · omega
        · omega
        · omega
        · have hb6 : (kind == 6) = false := by rw [beq_eq_false_iff_ne]; exact hk6
          have hb10 : (kind == 10) = false := by rw [beq_eq_false_iff_ne]; exact hk10
          go_wp2_with fail
          refine region_class (w := w5) ⟨w5, Below.refl _ _⟩ rfl (by kernel_rfl) (by kernel_rfl) ?_
          repeat (go_big_quiet_step ((go_at_call 12; with_reducible exact class_call (HCX.out _))))
          refine wpQuiet_nil ?_
          rintro _ ⟨y, rfl⟩
          have BY := Lib.hid (B5.out.trans (y.below.mono B5.out.size))
          go_wp2
          go_ret
          exact ⟨by first | rfl | simp, BY.out⟩
    · have c5 := X4.out.c
      have f5 := block_free X4.out 4
      have X5 := Lib.hid (X4.out.store (e' := modE 1 e) 4 (.int .i64 0) rfl)
      have E5 := Lib.hid (X4e.out.other hne 4 (.int .i64 0))
      have B5 := Lib.hid (B4.out.setCell (p := ⟨w3.heap.size, 4, none⟩) (by simp only; omega) (.int .i64 0))
      obtain ⟨id, kind, tick, ref, step, tryN, undo, data⟩ := e
      simp only [modE] at HEL HCX X5 E5 HF c5
      obtain ⟨q0, q1, q2, q3, q4, q5, q6, q7⟩ := c5
      go_upto_region 16 with (fail)
      generalize w4.setCell ⟨w3.heap.size, 4, none⟩ (.int .i64 0) = w5 at *
      have hel := HEL.out
      clear q0 q1 q2 q3 q4 q5 q6 q7 f5
      obtain ⟨g0, g1, g2, g3, g4, g5, g6, g7⟩ := E5.out.c
      obtain ⟨p0, p1, p2, p3, p4, p5, p6, p7⟩ := X5.out.c
      have hc : ∀ y : BW w5, _ := fun y => cells16 (E5.out.later y.below) (X5.out.later y.below)
      have u0 := fun y => (hc y).1.1
      have u1 := fun y => (hc y).1.2.1
      have u2 := fun y => (hc y).1.2.2.1
      have u3 := fun y => (hc y).1.2.2.2.1
      have u4 := fun y => (hc y).1.2.2.2.2.1
      have u5 := fun y => (hc y).1.2.2.2.2.2.1
      have u6 := fun y => (hc y).1.2.2.2.2.2.2.1
      have u7 := fun y => (hc y).1.2.2.2.2.2.2.2
      have v0 := fun y => (hc y).2.1
      have v1 := fun y => (hc y).2.2.1
      have v2 := fun y => (hc y).2.2.2.1
      have v3 := fun y => (hc y).2.2.2.2.1
      have v4 := fun y => (hc y).2.2.2.2.2.1
      have v5 := fun y => (hc y).2.2.2.2.2.2.1
      have v6 := fun y => (hc y).2.2.2.2.2.2.2.1
      have v7 := fun y => (hc y).2.2.2.2.2.2.2.2
      clear hc
      rcases HF.out with ⟨rfl, rfl⟩ | ⟨rfl, hk⟩
      · go_wp2_with fail
        refine (HCX.out _).mono ?_
        rintro x w9 ⟨rfl, b9⟩
        go_wp2
        go_ret
        exact ⟨rfl, B5.out.trans (b9.mono B5.out.size)⟩
      · rcases hk with ⟨rfl, hm, rfl⟩ | ⟨rfl, hm, rfl⟩ | ⟨rfl, hm, rfl⟩ | ⟨hk6, hk10, rfl⟩
        · clear hm
          go_wp2_with fail
          refine region_class (w := w5) ⟨w5, Below.refl _ _⟩ rfl (by kernel_rfl) (by kernel_rfl) ?_
          repeat (go_big_quiet_step ((go_at_call 12; with_reducible exact class_call (HCX.out _))))
          refine wpQuiet_nil ?_
          rintro _ ⟨y, rfl⟩
          have BY := Lib.hid (B5.out.trans (y.below.mono B5.out.size))
          go_wp2
          go_ret
          exact ⟨by first | rfl | simp, BY.out⟩
        · clear hm
          go_wp2_with fail
          refine region_class (w := w5) ⟨w5, Below.refl _ _⟩ rfl (by kernel_rfl) (by kernel_rfl) ?_
          repeat (go_big_quiet_step ((go_at_call 12; with_reducible exact class_call (HCX.out _))))
          refine wpQuiet_nil ?_
          rintro _ ⟨y, rfl⟩
          have BY := Lib.hid (B5.out.trans (y.below.mono B5.out.size))
          go_wp2
          go_ret
          exact ⟨by first | rfl | simp, BY.out⟩
        · omega
        · have hb6 : (kind == 6) = false := by rw [beq_eq_false_iff_ne]; exact hk6
          have hb10 : (kind == 10) = false := by rw [beq_eq_false_iff_ne]; exact hk10
          go_wp2_with fail
          refine region_class (w := w5) ⟨w5, Below.refl _ _⟩ rfl (by kernel_rfl) (by kernel_rfl) ?_
          repeat (go_big_quiet_step ((go_at_call 12; with_reducible exact class_call (HCX.out _))))
          refine wpQuiet_nil ?_
          rintro _ ⟨y, rfl⟩
          have BY := Lib.hid (B5.out.trans (y.below.mono B5.out.size))
          go_wp2
          go_ret
          exact ⟨by first | rfl | simp, BY.out⟩
    · have c5 := X4.out.c
      have f5 := block_free X4.out 5
      have X5 := Lib.hid (X4.out.store (e' := modE 2 e) 5 (.int .i64 0) rfl)
      have E5 := Lib.hid (X4e.out.other hne 5 (.int .i64 0))
      have B5 := Lib.hid (B4.out.setCell (p := ⟨w3.heap.size, 5, none⟩) (by simp only; omega) (.int .i64 0))
      obtain ⟨id, kind, tick, ref, step, tryN, undo, data⟩ := e
      simp only [modE] at HEL HCX X5 E5 HF c5
      obtain ⟨q0, q1, q2, q3, q4, q5, q6, q7⟩ := c5
      go_upto_region 16 with (fail)
      generalize w4.setCell ⟨w3.heap.size, 5, none⟩ (.int .i64 0) = w5 at *
      have hel := HEL.out
      clear q0 q1 q2 q3 q4 q5 q6 q7 f5
      obtain ⟨g0, g1, g2, g3, g4, g5, g6, g7⟩ := E5.out.c
      obtain ⟨p0, p1, p2, p3, p4, p5, p6, p7⟩ := X5.out.c
      have hc : ∀ y : BW w5, _ := fun y => cells16 (E5.out.later y.below) (X5.out.later y.below)
      have u0 := fun y => (hc y).1.1
      have u1 := fun y => (hc y).1.2.1
      have u2 := fun y => (hc y).1.2.2.1
      have u3 := fun y => (hc y).1.2.2.2.1
      have u4 := fun y => (hc y).1.2.2.2.2.1
      have u5 := fun y => (hc y).1.2.2.2.2.2.1
      have u6 := fun y => (hc y).1.2.2.2.2.2.2.1
      have u7 := fun y => (hc y).1.2.2.2.2.2.2.2
      have v0 := fun y => (hc y).2.1
      have v1 := fun y => (hc y).2.2.1
      have v2 := fun y => (hc y).2.2.2.1
      have v3 := fun y => (hc y).2.2.2.2.1
      have v4 := fun y => (hc y).2.2.2.2.2.1
      have v5 := fun y => (hc y).2.2.2.2.2.2.1
      have v6 := fun y => (hc y).2.2.2.2.2.2.2.1
      have v7 := fun y => (hc y).2.2.2.2.2.2.2.2
      clear hc
      rcases HF.out with ⟨rfl, rfl⟩ | ⟨rfl, hk⟩
      · go_wp2_with fail
        refine (HCX.out _).mono ?_
        rintro x w9 ⟨rfl, b9⟩
        go_wp2
        go_ret
        exact ⟨rfl, B5.out.trans (b9.mono B5.out.size)⟩
      · rcases hk with ⟨rfl, hm, rfl⟩ | ⟨rfl, hm, rfl⟩ | ⟨rfl, hm, rfl⟩ | ⟨hk6, hk10, rfl⟩
        · omega
        · omega
        · omega
        · have hb6 : (kind == 6) = false := by rw [beq_eq_false_iff_ne]; exact hk6
          have hb10 : (kind == 10) = false := by rw [beq_eq_false_iff_ne]; exact hk10
          go_wp2_with fail
          refine region_class (w := w5) ⟨w5, Below.refl _ _⟩ rfl (by kernel_rfl) (by kernel_rfl) ?_
          repeat (go_big_quiet_step ((go_at_call 12; with_reducible exact class_call (HCX.out _))))
          refine wpQuiet_nil ?_
          rintro _ ⟨y, rfl⟩
          have BY := Lib.hid (B5.out.trans (y.below.mono B5.out.size))
          go_wp2
          go_ret
          exact ⟨by first | rfl | simp, BY.out⟩
    · have c5 := X4.out.c
      have f5 := block_free X4.out 6
      have X5 := Lib.hid (X4.out.store (e' := modE 3 e) 6 (.bool !e.undo) rfl)
      have E5 := Lib.hid (X4e.out.other hne 6 (.bool !e.undo))
      have B5 := Lib.hid (B4.out.setCell (p := ⟨w3.heap.size, 6, none⟩) (by simp only; omega) (.bool !e.undo))
      obtain ⟨id, kind, tick, ref, step, tryN, undo, data⟩ := e
      simp only [modE] at HEL HCX X5 E5 HF c5
      obtain ⟨q0, q1, q2, q3, q4, q5, q6, q7⟩ := c5
      go_upto_region 16 with (fail)
      generalize w4.setCell ⟨w3.heap.size, 6, none⟩ (.bool !undo) = w5 at *
      have hel := HEL.out
      clear q0 q1 q2 q3 q4 q5 q6 q7 f5
      obtain ⟨g0, g1, g2, g3, g4, g5, g6, g7⟩ := E5.out.c
      obtain ⟨p0, p1, p2, p3, p4, p5, p6, p7⟩ := X5.out.c
      have hc : ∀ y : BW w5, _ := fun y => cells16 (E5.out.later y.below) (X5.out.later y.below)
      have u0 := fun y => (hc y).1.1
      have u1 := fun y => (hc y).1.2.1
      have u2 := fun y => (hc y).1.2.2.1
      have u3 := fun y => (hc y).1.2.2.2.1
      have u4 := fun y => (hc y).1.2.2.2.2.1
      have u5 := fun y => (hc y).1.2.2.2.2.2.1
      have u6 := fun y => (hc y).1.2.2.2.2.2.2.1
      have u7 := fun y => (hc y).1.2.2.2.2.2.2.2
      have v0 := fun y => (hc y).2.1
      have v1 := fun y => (hc y).2.2.1
      have v2 := fun y => (hc y).2.2.2.1
      have v3 := fun y => (hc y).2.2.2.2.1
      have v4 := fun y => (hc y).2.2.2.2.2.1
      have v5 := fun y => (hc y).2.2.2.2.2.2.1
      have v6 := fun y => (hc y).2.2.2.2.2.2.2.1
      have v7 := fun y => (hc y).2.2.2.2.2.2.2.2
      clear hc
      rcases HF.out with ⟨rfl, rfl⟩ | ⟨rfl, hk⟩
      · go_wp2_with fail
        refine (HCX.out _).mono ?_
        rintro x w9 ⟨rfl, b9⟩
        go_wp2
        go_ret
        exact ⟨rfl, B5.out.trans (b9.mono B5.out.size)⟩
      · rcases hk with ⟨rfl, hm, rfl⟩ | ⟨rfl, hm, rfl⟩ | ⟨rfl, hm, rfl⟩ | ⟨hk6, hk10, rfl⟩
        · clear hm
          go_wp2_with fail
          refine region_class (w := w5) ⟨w5, Below.refl _ _⟩ rfl (by kernel_rfl) (by kernel_rfl) ?_
          repeat (go_big_quiet_step ((go_at_call 12; with_reducible exact class_call (HCX.out _))))
          refine wpQuiet_nil ?_
          rintro _ ⟨y, rfl⟩
          have BY := Lib.hid (B5.out.trans (y.below.mono B5.out.size))
          go_wp2
          go_ret
          exact ⟨by first | rfl | simp, BY.out⟩
        · omega
        · clear hm
          go_wp2_with fail
          refine region_class (w := w5) ⟨w5, Below.refl _ _⟩ rfl (by kernel_rfl) (by kernel_rfl) ?_
          repeat (go_big_quiet_step ((go_at_call 12; with_reducible exact class_call (HCX.out _))))
          refine wpQuiet_nil ?_
          rintro _ ⟨y, rfl⟩
          have BY := Lib.hid (B5.out.trans (y.below.mono B5.out.size))
          go_wp2
          go_ret
          exact ⟨by first | rfl | simp, BY.out⟩
        · have hb6 : (kind == 6) = false := by rw [beq_eq_false_iff_ne]; exact hk6
          have hb10 : (kind == 10) = false := by rw [beq_eq_false_iff_ne]; exact hk10
          go_wp2_with fail
          refine region_class (w := w5) ⟨w5, Below.refl _ _⟩ rfl (by kernel_rfl) (by kernel_rfl) ?_
          repeat (go_big_quiet_step ((go_at_call 12; with_reducible exact class_call (HCX.out _))))
          refine wpQuiet_nil ?_
          rintro _ ⟨y, rfl⟩
          have BY := Lib.hid (B5.out.trans (y.below.mono B5.out.size))
          go_wp2
          go_ret
          exact ⟨by first | rfl | simp, BY.out⟩
    · have c5 := X4.out.c
      have f5 := block_free X4.out 7
      have X5 := Lib.hid (X4.out.store (e' := modE 4 e) 7 (.string ⟨#[]⟩) rfl)
      have E5 := Lib.hid (X4e.out.other hne 7 (.string ⟨#[]⟩))
      have B5 := Lib.hid (B4.out.setCell (p := ⟨w3.heap.size, 7, none⟩) (by simp only; omega) (.string ⟨#[]⟩))
      obtain ⟨id, kind, tick, ref, step, tryN, undo, data⟩ := e
      simp only [modE] at HEL HCX X5 E5 HF c5
      obtain ⟨q0, q1, q2, q3, q4, q5, q6, q7⟩ := c5
      go_upto_region 16 with (fail)
      generalize w4.setCell ⟨w3.heap.size, 7, none⟩ (.string ⟨#[]⟩) = w5 at *
      have hel := HEL.out
      clear q0 q1 q2 q3 q4 q5 q6 q7 f5
      obtain ⟨g0, g1, g2, g3, g4, g5, g6, g7⟩ := E5.out.c
      obtain ⟨p0, p1, p2, p3, p4, p5, p6, p7⟩ := X5.out.c
      have hc : ∀ y : BW w5, _ := fun y => cells16 (E5.out.later y.below) (X5.out.later y.below)
      have u0 := fun y => (hc y).1.1
      have u1 := fun y => (hc y).1.2.1
      have u2 := fun y => (hc y).1.2.2.1
      have u3 := fun y => (hc y).1.2.2.2.1
      have u4 := fun y => (hc y).1.2.2.2.2.1
      have u5 := fun y => (hc y).1.2.2.2.2.2.1
      have u6 := fun y => (hc y).1.2.2.2.2.2.2.1
      have u7 := fun y => (hc y).1.2.2.2.2.2.2.2
      have v0 := fun y => (hc y).2.1
      have v1 := fun y => (hc y).2.2.1
      have v2 := fun y => (hc y).2.2.2.1
      have v3 := fun y => (hc y).2.2.2.2.1
      have v4 := fun y => (hc y).2.2.2.2.2.1
      have v5 := fun y => (hc y).2.2.2.2.2.2.1
      have v6 := fun y => (hc y).2.2.2.2.2.2.2.1
      have v7 := fun y => (hc y).2.2.2.2.2.2.2.2
      clear hc
      rcases HF.out with ⟨rfl, rfl⟩ | ⟨rfl, hk⟩
      · go_wp2_with fail
        refine (HCX.out _).mono ?_
        rintro x w9 ⟨rfl, b9⟩
        go_wp2
        go_ret
        exact ⟨rfl, B5.out.trans (b9.mono B5.out.size)⟩
      · rcases hk with ⟨rfl, hm, rfl⟩ | ⟨rfl, hm, rfl⟩ | ⟨rfl, hm, rfl⟩ | ⟨hk6, hk10, rfl⟩
        · omega
        · omega
        · omega
        · have hb6 : (kind == 6) = false := by rw [beq_eq_false_iff_ne]; exact hk6
          have hb10 : (kind == 10) = false := by rw [beq_eq_false_iff_ne]; exact hk10
          go_wp2_with fail
          refine region_class (w := w5) ⟨w5, Below.refl _ _⟩ rfl (by kernel_rfl) (by kernel_rfl) ?_
          repeat (go_big_quiet_step ((go_at_call 12; with_reducible exact class_call (HCX.out _))))
          refine wpQuiet_nil ?_
          rintro _ ⟨y, rfl⟩
          have BY := Lib.hid (B5.out.trans (y.below.mono B5.out.size))
          go_wp2
          go_ret
          exact ⟨by first | rfl | simp, BY.out⟩
end Go.Proofs.Ythliofijioghkaa

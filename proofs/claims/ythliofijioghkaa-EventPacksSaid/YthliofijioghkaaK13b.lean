/- Layer 13: the walks of EventCodes, EventReads, EventPacks, EventApart, whatever the program. -/
import Derived.Test.YthliofijioghkaaK13
namespace Go.Proofs.Ythliofijioghkaa
open Go.RowKit
set_option linter.unusedVariables false

set_option maxHeartbeats 2000000 in
set_option maxRecDepth 100000 in
theorem codes13_walk (K : EventK) (e : EvS) (w : World) (hd : e.data.size ≤ 140737488351232) :
    Calls Try.prog 3 #[e.val'] w fun x w' => x = .returned (.bool true) ∧ Below w.heap.size w w' := by
  have hen := fun w => K.encode e w hd
  have hre := fun w => rencode13_any e hd w
  have hck := fun w => K.check e w hd
  generalize encES e = S at *
  generalize encEE e = E at *
  obtain ⟨w1, hw1, b1, x1, s1⟩ := evBoxed w e
  have X1 := Lib.hid x1
  have B1 := Lib.hid b1
  unfold EvS.val' at *
  have HEN := Lib.hid hen
  have HRE := Lib.hid hre
  have HCK := Lib.hid hck
  clear hen hre hck x1 b1 s1 hd
  go_enter Try.func3, Try.ntmps3
  go_wp2_with fail
  refine (awake13_any K _).mono ?_
  rintro x w2 ⟨rfl, b2⟩
  have B2 := Lib.hid (B1.out.trans (b2.mono B1.out.size))
  have X2 := Lib.hid (X1.out.later b2)
  clear b2
  obtain ⟨q0, q1, q2, q3, q4, q5, q6, q7⟩ := X2.out.c
  go_wp2_with fail
  refine (HEN.out _).mono ?_
  rintro x w3 ⟨rfl, b3⟩
  have B3 := Lib.hid (B2.out.trans (b3.mono B2.out.size))
  have X3 := Lib.hid (X2.out.later b3)
  clear b3 q0 q1 q2 q3 q4 q5 q6 q7
  obtain ⟨q0, q1, q2, q3, q4, q5, q6, q7⟩ := X3.out.c
  go_wp2_with fail
  refine (HRE.out _).mono ?_
  rintro x w4 ⟨rfl, b4⟩
  have B4 := Lib.hid (B3.out.trans (b4.mono B3.out.size))
  have X4 := Lib.hid (X3.out.later b4)
  clear b4 q0 q1 q2 q3 q4 q5 q6 q7
  obtain ⟨q0, q1, q2, q3, q4, q5, q6, q7⟩ := X4.out.c
  go_wp2_with fail
  refine (HCK.out _).mono ?_
  rintro x w5 ⟨rfl, b5⟩
  have B5 := Lib.hid (B4.out.trans (b5.mono B4.out.size))
  clear b5 q0 q1 q2 q3 q4 q5 q6 q7
  go_wp2
  go_ret
  exact ⟨by first | rfl | simp, B5.out⟩

set_option maxHeartbeats 2000000 in
set_option maxRecDepth 100000 in
theorem packs13_walk (K : EventK) (a : Option Addr) (c : Nat) (l : List EvS) (w : World) (h : ReadE w (.slice a l.length c) l) (hz : ∀ x ∈ l, x.data.size ≤ 140737488351232) :
    Calls Try.prog 5 #[.slice a l.length c] w fun x w' => x = .returned (.bool true) ∧ Below w.heap.size w w' := by
  have hpk := fun w' (b : Below w.heap.size w w') => K.pack l (h.below b) hz
  have hrp := fun w' (b : Below w.heap.size w w') => rpack13_any l (h.below b) hz
  generalize packS l = S at *
  generalize packE l = E at *
  have HPK := Lib.hid hpk
  have HRP := Lib.hid hrp
  clear hpk hrp h hz
  go_enter Try.func5, Try.ntmps5
  go_wp2_with fail
  refine (awake13_any K _).mono ?_
  rintro x w2 ⟨rfl, b2⟩
  have B2 := Lib.hid b2
  clear b2
  go_wp2_with fail
  refine (HPK.out _ B2.out).mono ?_
  rintro x w3 ⟨rfl, b3⟩
  have B3 := Lib.hid (B2.out.trans (b3.mono B2.out.size))
  clear b3
  go_wp2_with fail
  refine (HRP.out _ B3.out).mono ?_
  rintro x w4 ⟨rfl, b4⟩
  have B4 := Lib.hid (B3.out.trans (b4.mono B3.out.size))
  clear b4
  go_wp2
  go_ret
  exact ⟨by first | rfl | simp, B4.out⟩

set_option maxHeartbeats 2000000 in
set_option maxRecDepth 100000 in
theorem reads13_walk (K : EventK) (s : ByteArray) (w : World) (hs : s.size ≤ 140737488351232) :
    Calls Try.prog 4 #[.string s] w fun e w' => e = .returned (.bool true) ∧ Below w.heap.size w w' := by
  have HDC := Lib.hid (fun w => K.decode s w hs)
  have HRD := Lib.hid (fun w => rdecode13_any s hs w)
  have HUN := Lib.hid (fun w => K.unpack s w hs)
  have HRU := Lib.hid (fun w => runpack13_any s hs w)
  clear hs
  go_enter Try.func4, Try.ntmps4
  go_wp2_with fail
  refine (awake13_any K _).mono ?_
  rintro e w1 ⟨rfl, b1⟩
  have B1 := Lib.hid b1
  clear b1
  go_wp2_with fail
  refine (HDC.out _).mono ?_
  rintro e w2 ⟨x, E, rfl, hd, b2⟩
  have B2 := Lib.hid (B1.out.trans (b2.mono B1.out.size))
  have HD := Lib.hid hd
  clear b2 hd
  obtain ⟨w3, hw3, b3, x3, s3⟩ := evBoxed w2 x
  have B3 := Lib.hid (B2.out.trans (b3.mono B2.out.size))
  have X3 := Lib.hid x3
  clear b3 x3 s3
  unfold EvS.val'
  go_wp2_with fail
  refine (HRD.out _).mono ?_
  rintro e w4 ⟨y, F, rfl, hd, b4⟩
  obtain ⟨rfl, rfl⟩ := ev_one HD.out hd
  have B4 := Lib.hid (B3.out.trans (b4.mono B3.out.size))
  have X4 := Lib.hid (X3.out.later b4)
  clear b4 hd
  obtain ⟨w5, hw5, b5, x5, s5⟩ := evBoxed w4 y
  have B5 := Lib.hid (B4.out.trans (b5.mono B4.out.size))
  have X45 := Lib.hid (X4.out.later b5)
  have X5 := Lib.hid x5
  clear b5 x5 s5
  unfold EvS.val'
  go_wp2_with fail
  refine (HUN.out _).mono ?_
  rintro e w6 ⟨a, c, l, G, rfl, r6, hu, b6⟩
  have B6 := Lib.hid (B5.out.trans (b6.mono B5.out.size))
  have X46 := Lib.hid (X45.out.later b6)
  have X56 := Lib.hid (X5.out.later b6)
  have R6 := Lib.hid r6
  have HU := Lib.hid hu
  clear b6 r6 hu
  go_wp2_with fail
  refine (HRU.out _).mono ?_
  rintro e w7 ⟨a', c', m, G', rfl, r7, hu, -, b7⟩
  obtain ⟨rfl, rfl⟩ := hist_one HU.out hu
  have B7 := Lib.hid (B6.out.trans (b7.mono B6.out.size))
  have hsm := rsame13_any m m (R6.out.below b7) r7
  rw [decide_eq_true rfl] at hsm
  obtain ⟨q0, q1, q2, q3, q4, q5, q6, q7⟩ := (X46.out.later b7).c
  obtain ⟨p0, p1, p2, p3, p4, p5, p6, p7⟩ := (X56.out.later b7).c
  have hel := ev_eql y y
  rw [decide_eq_true rfl] at hel
  unfold EvS.val' at hel
  have HSM := Lib.hid hsm
  clear hsm b7 r7 hu
  go_wp2_with fail
  refine HSM.out.mono ?_
  rintro e w8 ⟨rfl, b8⟩
  have B8 := Lib.hid (B7.out.trans (b8.mono B7.out.size))
  clear b8 q0 q1 q2 q3 q4 q5 q6 q7 p0 p1 p2 p3 p4 p5 p6 p7
  go_wp2
  go_ret
  exact ⟨by first | rfl | simp, B8.out⟩

theorem enc_apart {x y : EvS} (hx : evB x = true) (hy : evB y = true) : ((encES x).toList == (encES y).toList) = decide (x = y) := by
  by_cases h : x = y
  · subst h; simp
  · rw [decide_eq_false h, beq_eq_false_iff_ne]
    intro e
    have e2 := (toList_iff12b _ _).1 e
    unfold encES at e2
    rw [if_pos hx, if_pos hy] at e2
    have := congrArg (fun b : ByteArray => b.data.toList) e2
    exact h (encEv_one hx hy (by simpa [bx] using this))

set_option maxHeartbeats 2000000 in
set_option maxRecDepth 100000 in
theorem apart13_walk (K : EventK) (x y : EvS) (w : World) (hx : x.data.size ≤ 140737488351232) (hy : y.data.size ≤ 140737488351232) :
    Calls Try.prog 8 #[x.val', y.val'] w fun e w' => e = .returned (.bool true) ∧ Below w.heap.size w w' := by
  have hex := fun w => K.encode x w hx
  have hey := fun w => K.encode y w hy
  have hone := Lib.hid (fun h1 h2 => enc_apart (x := x) (y := y) h1 h2)
  have hEx : Hid ((evB x = true ∧ encEE x = 0) ∨ encEE x = 120) := by
    cases hp : evB x with
    | true => exact .inl ⟨rfl, if_pos hp⟩
    | false => exact .inr (if_neg (by rw [hp]; decide))
  have hEy : Hid ((evB y = true ∧ encEE y = 0) ∨ encEE y = 120) := by
    cases hp : evB y with
    | true => exact .inl ⟨rfl, if_pos hp⟩
    | false => exact .inr (if_neg (by rw [hp]; decide))
  have hel := Lib.hid (ev_eql x y)
  generalize encES x = S at *
  generalize encES y = T at *
  generalize encEE x = E at *
  generalize encEE y = F at *
  obtain ⟨w1, hw1, b1, x1, s1⟩ := evBoxed w x
  obtain ⟨w2, hw2, b2, x2, s2⟩ := evBoxed w1 y
  have B2 := Lib.hid (b1.trans (b2.mono b1.size))
  have X1 := Lib.hid (x1.later b2)
  have X2 := Lib.hid x2
  unfold EvS.val' at *
  have HEX := Lib.hid hex
  have HEY := Lib.hid hey
  clear hex hey x1 x2 b1 b2 s1 s2 hx hy
  go_enter Try.func8, Try.ntmps8
  go_wp2_with fail
  refine (awake13_any K _).mono ?_
  rintro e w3 ⟨rfl, b3⟩
  have B3 := Lib.hid (B2.out.trans (b3.mono B2.out.size))
  have X13 := Lib.hid (X1.out.later b3)
  have X23 := Lib.hid (X2.out.later b3)
  clear b3
  obtain ⟨q0, q1, q2, q3, q4, q5, q6, q7⟩ := X13.out.c
  go_wp2_with fail
  refine (HEX.out _).mono ?_
  rintro e w4 ⟨rfl, b4⟩
  have B4 := Lib.hid (B3.out.trans (b4.mono B3.out.size))
  have X14 := Lib.hid (X13.out.later b4)
  have X24 := Lib.hid (X23.out.later b4)
  clear b4 q0 q1 q2 q3 q4 q5 q6 q7
  obtain ⟨q0, q1, q2, q3, q4, q5, q6, q7⟩ := X24.out.c
  go_wp2_with fail
  refine (HEY.out _).mono ?_
  rintro e w5 ⟨rfl, b5⟩
  have B5 := Lib.hid (B4.out.trans (b5.mono B4.out.size))
  have X15 := Lib.hid (X14.out.later b5)
  have X25 := Lib.hid (X24.out.later b5)
  clear b5 q0 q1 q2 q3 q4 q5 q6 q7
  rcases hEx.out with ⟨hpx, rfl⟩ | rfl
  · rcases hEy.out with ⟨hpy, rfl⟩ | rfl
    · have HCM := Lib.hid (hone.out hpx hpy)
      obtain ⟨q0, q1, q2, q3, q4, q5, q6, q7⟩ := X15.out.c
      obtain ⟨p0, p1, p2, p3, p4, p5, p6, p7⟩ := X25.out.c
      have hcm := HCM.out
      have hel2 := hel.out
      generalize decide (x = y) = D at *
      clear hpx hpy
      go_wp2
      go_ret
      exact ⟨by first | rfl | simp, B5.out⟩
    · go_wp2
      go_ret
      exact ⟨rfl, B5.out⟩
  · go_wp2
    go_ret
    exact ⟨rfl, B5.out⟩
end Go.Proofs.Ythliofijioghkaa

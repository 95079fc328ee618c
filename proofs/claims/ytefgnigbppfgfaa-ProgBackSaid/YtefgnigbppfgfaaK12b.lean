/- Layer 12: the walks of ProgCodes, ProgReads, ProgApart, whatever the program. -/
import Derived.Test.YtefgnigbppfgfaaK12
namespace Go.Proofs.Ytefgnigbppfgfaa
open Go.RowKit
set_option linter.unusedVariables false

/-- A program in its box. -/
theorem box12 {w : World} {b : Nat} {v : Value} {n : Int} (h : w.heap[b]? = some (.cells #[v, .int .i64 n] 24 (0, 0))) : w.cell? ⟨b, 0, none⟩ = some v ∧ w.cell? ⟨b, 1, none⟩ = some (.int .i64 n) := by
  rw [block_cell h, block_cell h]
  exact ⟨rfl, rfl⟩

theorem boxed12 (w : World) (v : Value) (n : Int) : ∃ w', w.alloc (.cells #[v, .int .i64 n] 24) = w' ∧ Below w.heap.size w w' ∧ w'.heap[w.heap.size]? = some (.cells #[v, .int .i64 n] 24 (0, 0)) :=
  ⟨_, rfl, (Below.refl _ w).alloc (Nat.le_refl _) _, heap_alloc_new _ _⟩
theorem later12 {w w' : World} {b : Nat} {v : Value} {n : Int} (h : w.heap[b]? = some (.cells #[v, .int .i64 n] 24 (0, 0))) (t : Below w.heap.size w w') : w'.heap[b]? = some (.cells #[v, .int .i64 n] 24 (0, 0)) := (t.block b (block_lt h)).trans h

set_option maxHeartbeats 2000000 in
set_option maxRecDepth 100000 in
theorem codes12_walk (K : ProgK) (a : Option Addr) (c : Nat) (p : ProgS) (name : ByteArray) (w : World) (h : ReadG w (.slice a p.steps.length c) p.steps) (hn : name.size ≤ maxLen) :
    Calls Try.prog 3 #[p.val' a c, .string name] w fun e w' => e = .returned (.bool true) ∧ Below w.heap.size w w' := by
  have hen := fun w' (b : Below w.heap.size w w') => K.encode p (h.below b)
  have hre := fun w' (b : Below w.heap.size w w') => rencode_any p (h.below b)
  have hck := fun w' (b : Below w.heap.size w w') => K.check p (h.below b)
  have hnm := fun w' => K.named name w' hn
  have hrn := fun w' => rnamed_any name hn w'
  generalize encS p = S at *
  generalize encE p = E at *
  generalize nameB name = NB at *
  obtain ⟨l, lim⟩ := p
  unfold ProgS.val' at *
  simp only at *
  have HEN := Lib.hid hen
  have HRE := Lib.hid hre
  have HCK := Lib.hid hck
  have HNM := Lib.hid hnm
  have HRN := Lib.hid hrn
  obtain ⟨w0, hw0⟩ : ∃ w0, w.alloc (.cells #[.slice a l.length c, .int .i64 lim] 24) = w0 := ⟨_, rfl⟩
  have hb0 : Below w.heap.size w w0 := by rw [← hw0]; exact (Below.refl _ w).alloc (Nat.le_refl _) _
  have hnw : w0.heap[w.heap.size]? = some (.cells #[.slice a l.length c, .int .i64 lim] 24 (0, 0)) := by rw [← hw0]; exact heap_alloc_new _ _
  have HB0 := Lib.hid hb0
  have HNW := Lib.hid hnw
  clear hen hre hck hnm hrn h hb0 hnw
  go_enter Try.func3, Try.ntmps3
  go_wp2_with fail
  refine (awake12_any K _).mono ?_
  rintro e w1 ⟨rfl, b1⟩
  have B1 := Lib.hid (HB0.out.trans (b1.mono HB0.out.size))
  have N1 := Lib.hid ((b1.block _ (block_lt HNW.out)).trans HNW.out)
  obtain ⟨c0, c1⟩ := box12 N1.out
  clear b1
  go_wp2_with fail
  refine (HEN.out _ B1.out).mono ?_
  rintro e w2 ⟨rfl, b2⟩
  have B2 := Lib.hid (B1.out.trans (b2.mono B1.out.size))
  have N2 := Lib.hid ((b2.block _ (block_lt N1.out)).trans N1.out)
  clear b2 c0 c1
  obtain ⟨c0, c1⟩ := box12 N2.out
  go_wp2_with fail
  refine (HRE.out _ B2.out).mono ?_
  rintro e w3 ⟨rfl, b3⟩
  have B3 := Lib.hid (B2.out.trans (b3.mono B2.out.size))
  have N3 := Lib.hid ((b3.block _ (block_lt N2.out)).trans N2.out)
  clear b3 c0 c1
  obtain ⟨c0, c1⟩ := box12 N3.out
  go_wp2_with fail
  refine (HCK.out _ B3.out).mono ?_
  rintro e w4 ⟨rfl, b4⟩
  have B4 := Lib.hid (B3.out.trans (b4.mono B3.out.size))
  clear b4 c0 c1
  go_wp2_with fail
  refine (HNM.out _).mono ?_
  rintro e w5 ⟨rfl, b5⟩
  have B5 := Lib.hid (B4.out.trans (b5.mono B4.out.size))
  clear b5
  go_wp2_with fail
  refine (HRN.out _).mono ?_
  rintro e w6 ⟨rfl, rfl⟩
  go_wp2
  go_ret
  exact ⟨by first | rfl | simp, B5.out⟩

set_option maxHeartbeats 2000000 in
set_option maxRecDepth 100000 in
theorem reads12_walk (K : ProgK) (s : ByteArray) (w : World) (hs : s.size ≤ 140737488351232) :
    Calls Try.prog 4 #[.string s] w fun e w' => e = .returned (.bool true) ∧ Below w.heap.size w w' := by
  have hdc := fun w => K.decode s w hs
  have hrd := fun w => rdecode_any s hs w
  have HDC := Lib.hid hdc
  have HRD := Lib.hid hrd
  clear hdc hrd
  go_enter Try.func4, Try.ntmps4
  go_wp2_with fail
  refine (awake12_any K _).mono ?_
  rintro e w1 ⟨rfl, b1⟩
  have B1 := Lib.hid b1
  clear b1
  go_wp2_with fail
  refine (HDC.out w1).mono ?_
  rintro e w2 ⟨a, c, p, E, rfl, r2, hd, b2⟩
  have B2 := Lib.hid (B1.out.trans (b2.mono B1.out.size))
  have R2 := Lib.hid r2
  have HD := Lib.hid hd
  clear b2 r2 hd
  unfold ProgS.val'
  obtain ⟨w3, hw3, b3, n3⟩ := boxed12 w2 (.slice a p.steps.length c) p.limit
  have B3 := Lib.hid (B2.out.trans (b3.mono B2.out.size))
  have R3 := Lib.hid (R2.out.below b3)
  have N3 := Lib.hid n3
  clear b3 n3
  go_wp2_with fail
  refine (HRD.out _).mono ?_
  rintro e w4 ⟨a', c', q, F, rfl, r4, hd, b4⟩
  obtain ⟨rfl, rfl⟩ := dec_one HD.out hd
  obtain ⟨w5, hw5, b5, n5⟩ := boxed12 w4 (.slice a' q.steps.length c') q.limit
  have B5 := Lib.hid (B3.out.trans ((b4.trans (b5.mono b4.size)).mono B3.out.size))
  have N35 := Lib.hid (later12 (later12 N3.out b4) b5)
  have hsm := rsame12_any q q (R3.out.below (b4.trans (b5.mono b4.size))) (r4.below b5)
  rw [sameG_refl] at hsm
  have HSM := Lib.hid hsm
  obtain ⟨c0, c1⟩ := box12 N35.out
  obtain ⟨d0, d1⟩ := box12 n5
  clear b4 b5 n5 r4 hd hsm
  unfold ProgS.val' at *
  go_wp2_with fail
  refine HSM.out.mono ?_
  rintro e w6 ⟨rfl, b6⟩
  have B6 := Lib.hid (B5.out.trans (b6.mono B5.out.size))
  clear b6 c0 c1 d0 d1
  go_wp2
  go_ret
  exact ⟨by first | rfl | simp, B6.out⟩

set_option maxHeartbeats 2000000 in
set_option maxRecDepth 100000 in
theorem apart12_walk (K : ProgK) (a : Option Addr) (c : Nat) (p : ProgS) (a' : Option Addr) (c' : Nat) (q : ProgS) (w : World) (h : ReadG w (.slice a p.steps.length c) p.steps) (h' : ReadG w (.slice a' q.steps.length c') q.steps) :
    Calls Try.prog 7 #[p.val' a c, q.val' a' c'] w fun e w' => e = .returned (.bool true) ∧ Below w.heap.size w w' := by
  have hep := fun w' (b : Below w.heap.size w w') => K.encode p (h.below b)
  have heq := fun w' (b : Below w.heap.size w w') => K.encode q (h'.below b)
  have hsm := fun w' (b : Below w.heap.size w w') => rsame12_any p q (h.below b) (h'.below b)
  have hone : Hid (progB p = true → progB q = true → ((encS p).toList == (encS q).toList) = sameG p q) := fun h1 h2 => by
    cases hs : sameG p q with
    | true => rw [(sameG_iff p q).1 hs]; simp
    | false =>
      rw [beq_eq_false_iff_ne]
      intro e
      have e2 := (toList_iff12b _ _).1 e
      have e3 : encProg p = encProg q := by
        unfold encS at e2
        rw [if_pos h1, if_pos h2] at e2
        have := congrArg (fun b : ByteArray => b.data.toList) e2
        simpa [bx] using this
      rw [(sameG_iff p q).2 (enc_one h1 h2 e3)] at hs
      cases hs
  have hEp : Hid ((progB p = true ∧ encE p = 0) ∨ (progB p = false ∧ encE p = 130)) := by
    cases hp : progB p with
    | true => exact .inl ⟨rfl, by unfold encE; rw [if_pos hp]⟩
    | false => exact .inr ⟨rfl, by unfold encE; rw [if_neg (by rw [hp]; simp)]⟩
  have hEq : Hid ((progB q = true ∧ encE q = 0) ∨ (progB q = false ∧ encE q = 130)) := by
    cases hp : progB q with
    | true => exact .inl ⟨rfl, by unfold encE; rw [if_pos hp]⟩
    | false => exact .inr ⟨rfl, by unfold encE; rw [if_neg (by rw [hp]; simp)]⟩
  generalize encS p = S1 at *
  generalize encS q = S2 at *
  generalize encE p = E1 at *
  generalize encE q = E2 at *
  generalize progB p = PB at *
  generalize progB q = QB at *
  generalize sameG p q = SG at *
  obtain ⟨l, lim⟩ := p
  obtain ⟨l', lim'⟩ := q
  unfold ProgS.val' at *
  simp only at *
  have HEP := Lib.hid hep
  have HEQ := Lib.hid heq
  have HSM := Lib.hid hsm
  obtain ⟨w1, hw1, b1, n1⟩ := boxed12 w (.slice a l.length c) lim
  obtain ⟨w2, hw2, b2, n2⟩ := boxed12 w1 (.slice a' l'.length c') lim'
  have hs1 : w1.heap.size = w.heap.size + 1 := by rw [← hw1]; simp
  rw [hs1] at n2
  have B2 := Lib.hid (b1.trans (b2.mono b1.size))
  have N1 := Lib.hid (later12 n1 b2)
  have N2 := Lib.hid n2
  clear hep heq hsm h h' b1 b2 n1 n2
  go_enter Try.func7, Try.ntmps7
  go_wp2_with fail
  refine (awake12_any K _).mono ?_
  rintro e w3 ⟨rfl, b3⟩
  have B3 := Lib.hid (B2.out.trans (b3.mono B2.out.size))
  have N13 := Lib.hid (later12 N1.out b3)
  have N23 := Lib.hid (later12 N2.out b3)
  clear b3
  obtain ⟨c0, c1⟩ := box12 N13.out
  go_wp2_with fail
  refine (HEP.out _ B3.out).mono ?_
  rintro e w4 ⟨rfl, b4⟩
  have B4 := Lib.hid (B3.out.trans (b4.mono B3.out.size))
  have N14 := Lib.hid (later12 N13.out b4)
  have N24 := Lib.hid (later12 N23.out b4)
  clear b4 c0 c1
  obtain ⟨d0, d1⟩ := box12 N24.out
  go_wp2_with fail
  refine (HEQ.out _ B4.out).mono ?_
  rintro e w5 ⟨rfl, b5⟩
  have B5 := Lib.hid (B4.out.trans (b5.mono B4.out.size))
  have N15 := Lib.hid (later12 N14.out b5)
  have N25 := Lib.hid (later12 N24.out b5)
  clear b5 d0 d1
  obtain ⟨c0, c1⟩ := box12 N15.out
  obtain ⟨d0, d1⟩ := box12 N25.out
  rcases hEp.out with ⟨rfl, rfl⟩ | ⟨rfl, rfl⟩
  · rcases hEq.out with ⟨rfl, rfl⟩ | ⟨rfl, rfl⟩
    · have hcm := hone.out rfl rfl
      have HCM := Lib.hid hcm
      clear hcm
      go_wp2_with fail
      refine (HSM.out _ B5.out).mono ?_
      rintro e w6 ⟨rfl, b6⟩
      have B6 := Lib.hid (B5.out.trans (b6.mono B5.out.size))
      clear b6 c0 c1 d0 d1
      have hcm := HCM.out
      go_wp2
      go_ret
      exact ⟨by first | rfl | simp, B6.out⟩
    · go_wp2
      go_ret
      exact ⟨rfl, B5.out⟩
  · go_wp2
    go_ret
    exact ⟨rfl, B5.out⟩
end Go.Proofs.Ytefgnigbppfgfaa

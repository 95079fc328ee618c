/- Layer 13: the contract of the program's Decode. -/
import Derived.Test.YthliofijioghkaaM13p
import Derived.Test.YthliofijioghkaaW13c
import Derived.Test.YthliofijioghkaaR13e
import Derived.Deep.Cut
namespace Go.Proofs.Ythliofijioghkaa
open Go.RowKit
set_option linter.unusedVariables false

/-- A field is read if it is there. -/
def ifFld (b : Bool) (c : UInt8) (x : EvS × Option (List UInt8)) : EvS × Option (List UInt8) := if b then rdFldV x c else x
theorem flds_ifs (k : Int) (x : EvS × Option (List UInt8)) :
    rdFldsV x (shapeL k) = ifFld (dataF (shapeL k)) 112 (ifFld (decide (shapeL k = [115, 117])) 117 (ifFld ((shapeL k).contains 116) 116 (ifFld ((shapeL k).contains 115) 115 (ifFld ((shapeL k).contains 114) 114 x)))) := by
  rcases shape_cases k.toNat with h | h | h | h | h | h | h <;> rw [show shapeL k = _ from h] <;> rfl
theorem Most.fldV {N : Nat} {x : EvS × Option (List UInt8)} (h : Most N x.2 ∧ x.1.data.size ≤ N) (c : UInt8) : Most N (rdFldV x c).2 ∧ (rdFldV x c).1.data.size ≤ N := by
  have z : ∀ l : List UInt8, (⟨l.toArray⟩ : ByteArray).size = l.length := fun l => by show l.toArray.size = _; simp
  unfold rdFldV
  simp only
  split
  · exact ⟨h.1.int _, h.2⟩
  split
  · exact ⟨h.1.int _, h.2⟩
  split
  · exact ⟨h.1.int _, h.2⟩
  split
  · exact ⟨h.1.int _, h.2⟩
  · exact ⟨h.1.text.1, by rw [z]; exact h.1.text.2⟩
theorem Most.fldsV {N : Nat} : ∀ (f : List UInt8) {x : EvS × Option (List UInt8)} (h : Most N x.2 ∧ x.1.data.size ≤ N), Most N (rdFldsV x f).2 ∧ (rdFldsV x f).1.data.size ≤ N
  | [], x, h => h
  | c :: r, x, h => Most.fldsV r (Most.fldV h c)

/-- The reader, and the result's cells, before the event is made. -/
structure RdAt (w wr : World) (rb : Nat) (R : Option (List UInt8)) : Prop where
  rd : RDE wr rb R
  ord : w.heap.size < rb
  below : Below w.heap.size w wr
  res : wr.heap[w.heap.size]? = some (.cells EvS.zero.arr 23 (0, 0))
/-- .. with the event, and its kind's fields. -/
structure EvD (w wr : World) (rb xb pm : Nat) (R : Option (List UInt8)) (e : EvS) (k : Int) : Prop where
  ev : EvAt w wr rb xb R e
  m : MaskAt wr pm k
  lt : xb < pm
section
variable {w wr w' : World} {rb xb pm : Nat} {R R' : Option (List UInt8)} {e : EvS} {k : Int}
theorem RdAt.call (h : RdAt w wr rb R) (t : Left wr w' rb R') : RdAt w w' rb R' :=
  ⟨t.1, h.ord, h.below.trans (t.below h.below.size (Nat.le_of_lt h.ord)), (t.2.block _ (block_lt h.res) (by have := h.ord; simp; omega)).trans h.res⟩
theorem RdAt.event (h : RdAt w wr rb R) (e : EvS) : EvAt w (wr.alloc (.cells e.arr 23)) rb wr.heap.size R e := by
  have ha := (Below.refl wr.heap.size wr).alloc (Nat.le_refl _) (.cells e.arr 23)
  exact ⟨h.rd.below ha, heap_alloc_new _ _, ⟨h.rd.lt, h.ord⟩, h.below.trans (ha.mono h.below.size), (ha.block _ (block_lt h.res)).trans h.res⟩
theorem EvD.call (h : EvD w wr rb xb pm R e k) (t : Left wr w' rb R') : EvD w w' rb xb pm R' e k :=
  ⟨h.ev.call t, h.m.block (t.2.block pm (block_lt h.m) (by have := h.lt; have := h.ev.ord; simp; omega)), h.lt⟩
theorem EvD.store (h : EvD w wr rb xb pm R e k) (i : Nat) (u : Value) (e' : EvS) (he : e'.arr = e.arr.setIfInBounds i u) : EvD w (wr.setCell ⟨xb, i, none⟩ u) rb xb pm R e' k :=
  ⟨h.ev.store i u e' he, h.m.block (Below.heap_setCell _ _ _ _ (fun e2 => by have := h.lt; have e3 : pm = xb := (by first | exact e2 | exact e2.symm); omega)), h.lt⟩
end

set_option maxHeartbeats 8000000 in
set_option maxRecDepth 100000 in
theorem decode13_any (s : ByteArray) (hs : s.size ≤ 140737488351232) (w : World) :
    Calls Try.prog 13 #[.string s] w fun x w' => ∃ e E, x = .returned (.tuple #[e.val', .int .i64 (E : Nat)]) ∧ EvEnd s.data.toList e E ∧ Below w.heap.size w w' := by
  obtain ⟨w1, hw1⟩ : ∃ w1, w.alloc (.cells #[.int .i64 0, .int .i64 0, .int .i64 0, .int .i64 0, .int .i64 0, .int .i64 0, .bool false, .string ⟨#[]⟩] 23) = w1 := ⟨_, rfl⟩
  have hs1 : w1.heap.size = w.heap.size + 1 := by rw [← hw1]; simp
  have b1 : Below w.heap.size w w1 := by rw [← hw1]; exact (Below.refl _ _).alloc (Nat.le_refl _) _
  have hq1 : w1.heap[w.heap.size]? = some (.cells EvS.zero.arr 23 (0, 0)) := by rw [← hw1]; exact heap_alloc_new _ _
  have HRD := Lib.hid (read_any s hs w1)
  have H1 : Hid (w1.heap.size = w.heap.size + 1 ∧ Below w.heap.size w w1 ∧ w1.heap[w.heap.size]? = some (.cells EvS.zero.arr 23 (0, 0))) := ⟨hs1, b1, hq1⟩
  obtain ⟨n1, hn1⟩ : ∃ n, (intS 500 (some s.data.toList)).1 = n := ⟨_, rfl⟩
  obtain ⟨R1, hR1⟩ : ∃ R, (intS 500 (some s.data.toList)).2 = R := ⟨_, rfl⟩
  obtain ⟨n2, hn2⟩ : ∃ n, (intS 18 R1).1 = n := ⟨_, rfl⟩
  obtain ⟨R2, hR2⟩ : ∃ R, (intS 18 R1).2 = R := ⟨_, rfl⟩
  obtain ⟨n3, hn3⟩ : ∃ n, (intS 1099511627776 R2).1 = n := ⟨_, rfl⟩
  obtain ⟨R3, hR3⟩ : ∃ R, (intS 1099511627776 R2).2 = R := ⟨_, rfl⟩
  have hn500 : n1 ≤ 500 := by rw [← hn1]; exact numS_le 500 (some s.data.toList)
  have hM : Most s.size R3 := by
    rw [← hR3, ← hR2, ← hR1]
    have : Most s.size (some s.data.toList) := fun r hr => by injection hr with hr; rw [← hr]; simp
    exact ((this.int _).int _).int _
  have HX : Hid (rdEvV (some s.data.toList) = ifFld (dataF (shapeL (n2 : Int))) 112 (ifFld (decide (shapeL (n2 : Int) = [115, 117])) 117 (ifFld ((shapeL (n2 : Int)).contains 116) 116 (ifFld ((shapeL (n2 : Int)).contains 115) 115 (ifFld ((shapeL (n2 : Int)).contains 114) 114 (⟨(n1 : Int), (n2 : Int), (n3 : Int), 0, 0, 0, false, ⟨#[]⟩⟩, R3))))) ∧ (rdEvV (some s.data.toList)).1.data.size ≤ s.size) := by
    have hh : rdHeadV (some s.data.toList) = (⟨(n1 : Int), (n2 : Int), (n3 : Int), 0, 0, 0, false, ⟨#[]⟩⟩, R3) := by
      unfold rdHeadV
      simp only [hn1, hR1, hn2, hR2, hn3, hR3]
    show _ ∧ _
    constructor
    · unfold rdEvV
      rw [hh]
      exact flds_ifs (n2 : Int) _
    · unfold rdEvV
      rw [hh]
      exact (Most.fldsV _ ⟨hM, Nat.zero_le _⟩).2
  have R4 := fun w p (h : MaskAt w p (n2 : Int)) => has_ref h
  have R5 := fun w p (h : MaskAt w p (n2 : Int)) => has_step h
  have R6 := fun w p (h : MaskAt w p (n2 : Int)) => has_try h
  have R7 := fun w p (h : MaskAt w p (n2 : Int)) => has_undo h
  have R8 := fun w p (h : MaskAt w p (n2 : Int)) => has_data h
  generalize dataF (shapeL (n2 : Int)) = b8 at *
  generalize decide (shapeL (n2 : Int) = [115, 117]) = b7 at *
  generalize (shapeL (n2 : Int)).contains 116 = b6 at *
  generalize (shapeL (n2 : Int)).contains 115 = b5 at *
  generalize (shapeL (n2 : Int)).contains 114 = b4 at *
  have S4 := Lib.hid R4
  have S5 := Lib.hid R5
  have S6 := Lib.hid R6
  have S7 := Lib.hid R7
  have S8 := Lib.hid R8
  clear hs1 b1 hq1 hM R4 R5 R6 R7 R8
  go_enter Try.func13, Try.ntmps13
  go_wp2_with fail
  refine HRD.out.mono ?_
  rintro e w2 ⟨rfl, rd2, bb2⟩
  have HA : Hid (RdAt w w2 w1.heap.size (some s.data.toList)) := by
    obtain ⟨e1, e2, e3⟩ := H1.out
    exact ⟨rd2, by omega, e2.trans (bb2.mono (by omega)), (bb2.block _ (by omega)).trans e3⟩
  clear HRD rd2 bb2
  go_wp2_with fail
  refine (int_any HA.out.rd 500 (by omega)).mono ?_
  rintro e w3 ⟨rfl, l3⟩
  rw [hR1] at l3
  rw [hn1]
  have HB := Lib.hid (HA.out.call l3)
  clear l3 HA hn1 hR1
  go_wp2_with fail
  refine (int_any HB.out.rd 18 (by omega)).mono ?_
  rintro e w4 ⟨rfl, l3⟩
  rw [hR2] at l3
  rw [hn2]
  have HC := Lib.hid (HB.out.call l3)
  clear l3 HB hn2 hR2
  go_wp2_with fail
  refine (int_any HC.out.rd 1099511627776 (by omega)).mono ?_
  rintro e w5 ⟨rfl, l3⟩
  rw [hR3] at l3
  rw [hn3]
  have HD := Lib.hid (HC.out.call l3)
  clear l3 HC hn3 hR3
  have HE : Hid (EvAt w (w5.alloc (.cells #[.int .i64 (n1 : Int), .int .i64 (n2 : Int), .int .i64 (n3 : Int), .int .i64 0, .int .i64 0, .int .i64 0, .bool false, .string ⟨#[]⟩] 23)) w1.heap.size w5.heap.size R3 ⟨(n1 : Int), (n2 : Int), (n3 : Int), 0, 0, 0, false, ⟨#[]⟩⟩) := HD.out.event ⟨(n1 : Int), (n2 : Int), (n3 : Int), 0, 0, 0, false, ⟨#[]⟩⟩
  have HSZ : Hid (w5.heap.size < (w5.alloc (.cells #[.int .i64 (n1 : Int), .int .i64 (n2 : Int), .int .i64 (n3 : Int), .int .i64 0, .int .i64 0, .int .i64 0, .bool false, .string ⟨#[]⟩] 23)).heap.size) := by show _ < _; simp
  clear HD
  go_upto_region 3 with (fail)
  generalize w5.alloc (.cells #[.int .i64 (n1 : Int), .int .i64 (n2 : Int), .int .i64 (n3 : Int), .int .i64 0, .int .i64 0, .int .i64 0, .bool false, .string ⟨#[]⟩] 23) = w6 at *
  generalize w5.heap.size = xb at *
  generalize w1.heap.size = rb at *
  have c1 : w6.cell? ⟨xb, 1, none⟩ = some (.int .i64 (n2 : Int)) := HE.out.cell 1
  have HFO := Lib.hid (fieldsOf_any (n2 : Int))
  go_wp2_with fail
  refine (HFO.out _).mono ?_
  rintro e w7 ⟨rfl, mk, b7⟩
  have HD : Hid (EvD w w7 rb xb w6.heap.size R3 ⟨(n1 : Int), (n2 : Int), (n3 : Int), 0, 0, 0, false, ⟨#[]⟩⟩ (n2 : Int)) := ⟨HE.out.later b7, mk, HSZ.out⟩
  clear HE mk b7 HFO c1
  generalize w6.heap.size = pm at *
  clear hw1 HSZ
  go_wp2_with fail
  refine (S4.out _ _ HD.out.m).mono ?_
  rintro e w9 ⟨rfl, rfl⟩
  go_upto_if 20 with (fail)
  go_cut [] from 19 (fun wx => Hid (EvD w wx rb xb pm (ifFld b4 114 (⟨(n1 : Int), (n2 : Int), (n3 : Int), 0, 0, 0, false, ⟨#[]⟩⟩, R3)).2 (ifFld b4 114 (⟨(n1 : Int), (n2 : Int), (n3 : Int), 0, 0, 0, false, ⟨#[]⟩⟩, R3)).1 (n2 : Int)))
  case first =>
    cases b4 with
    | false =>
      go_wp2_with fail
      go_meet
      exact HD.out
    | true =>
      obtain ⟨k, hk⟩ : ∃ k, (intS ((n1 : Int) - 1) R3).1 = k := ⟨_, rfl⟩
      obtain ⟨Q, hQ⟩ : ∃ Q, (intS ((n1 : Int) - 1) R3).2 = Q := ⟨_, rfl⟩
      have HXN : Hid (ifFld true 114 (⟨(n1 : Int), (n2 : Int), (n3 : Int), 0, 0, 0, false, ⟨#[]⟩⟩, R3) = (⟨(n1 : Int), (n2 : Int), (n3 : Int), (k : Int), 0, 0, false, ⟨#[]⟩⟩, Q)) := by show _ = _; simp [ifFld, rdFldV, hk, hQ]
      have c0 : w9.cell? ⟨xb, 0, none⟩ = some (.int .i64 (n1 : Int)) := HD.out.ev.cell 0
      go_wp2_with fail
      refine (int_any HD.out.ev.rd ((n1 : Int) - 1) (by omega)).mono ?_
      rintro x wA ⟨rfl, hA⟩
      rw [hk]
      rw [hQ] at hA
      have HDx := Lib.hid (HD.out.call hA)
      clear hA HD
      have a0 : wA.cell? ⟨xb, 3, none⟩ = some (.int .i64 0) := HDx.out.ev.cell 3
      have a1 := HDx.out.ev.free 3
      have HDy : Hid (EvD w (wA.setCell ⟨xb, 3, none⟩ (.int .i64 (k : Int))) rb xb pm Q ⟨(n1 : Int), (n2 : Int), (n3 : Int), (k : Int), 0, 0, false, ⟨#[]⟩⟩ (n2 : Int)) := HDx.out.store 3 _ _ rfl
      clear HDx
      go_wp2_with fail
      go_meet
      rw [HXN.out]
      exact HDy.out
  case rest =>
    have HD2 := hcut
    clear hcut HD S4
    generalize ifFld b4 114 (⟨(n1 : Int), (n2 : Int), (n3 : Int), 0, 0, 0, false, ⟨#[]⟩⟩, R3) = X at *
    obtain ⟨⟨x0, x1, x2, x3, x4, x5, x6, x7⟩, R⟩ := X
    simp only at HD2
    have HD := HD2
    clear HD2
    go_wp2_with fail
    refine (S5.out _ _ HD.out.m).mono ?_
    rintro e w9 ⟨rfl, rfl⟩
    go_upto_if 28 with (fail)
    go_cut [] from 27 (fun wx => Hid (EvD w wx rb xb pm (ifFld b5 115 (⟨x0, x1, x2, x3, x4, x5, x6, x7⟩, R)).2 (ifFld b5 115 (⟨x0, x1, x2, x3, x4, x5, x6, x7⟩, R)).1 (n2 : Int)))
    case first =>
      cases b5 with
      | false =>
        go_wp2_with fail
        go_meet
        exact HD.out
      | true =>
        obtain ⟨k, hk⟩ : ∃ k, (intS 15 R).1 = k := ⟨_, rfl⟩
        obtain ⟨Q, hQ⟩ : ∃ Q, (intS 15 R).2 = Q := ⟨_, rfl⟩
        have HXN : Hid (ifFld true 115 (⟨x0, x1, x2, x3, x4, x5, x6, x7⟩, R) = (⟨x0, x1, x2, x3, (k : Int), x5, x6, x7⟩, Q)) := by show _ = _; simp [ifFld, rdFldV, hk, hQ]
        go_wp2_with fail
        refine (int_any HD.out.ev.rd 15 (by omega)).mono ?_
        rintro x wA ⟨rfl, hA⟩
        rw [hk]
        rw [hQ] at hA
        have HDx := Lib.hid (HD.out.call hA)
        clear hA HD
        have a0 : wA.cell? ⟨xb, 4, none⟩ = some (.int .i64 x4) := HDx.out.ev.cell 4
        have a1 := HDx.out.ev.free 4
        have HDy : Hid (EvD w (wA.setCell ⟨xb, 4, none⟩ (.int .i64 (k : Int))) rb xb pm Q ⟨x0, x1, x2, x3, (k : Int), x5, x6, x7⟩ (n2 : Int)) := HDx.out.store 4 _ _ rfl
        clear HDx
        go_wp2_with fail
        go_meet
        rw [HXN.out]
        exact HDy.out
    case rest =>
      have HD2 := hcut
      clear hcut HD S5
      generalize ifFld b5 115 (⟨x0, x1, x2, x3, x4, x5, x6, x7⟩, R) = X at *
      obtain ⟨⟨x0, x1, x2, x3, x4, x5, x6, x7⟩, R⟩ := X
      simp only at HD2
      have HD := HD2
      clear HD2
      go_wp2_with fail
      refine (S6.out _ _ HD.out.m).mono ?_
      rintro e w9 ⟨rfl, rfl⟩
      go_upto_if 33 with (fail)
      go_cut [] from 32 (fun wx => Hid (EvD w wx rb xb pm (ifFld b6 116 (⟨x0, x1, x2, x3, x4, x5, x6, x7⟩, R)).2 (ifFld b6 116 (⟨x0, x1, x2, x3, x4, x5, x6, x7⟩, R)).1 (n2 : Int)))
      case first =>
        cases b6 with
        | false =>
          go_wp2_with fail
          go_meet
          exact HD.out
        | true =>
          obtain ⟨k, hk⟩ : ∃ k, (intS 5 R).1 = k := ⟨_, rfl⟩
          obtain ⟨Q, hQ⟩ : ∃ Q, (intS 5 R).2 = Q := ⟨_, rfl⟩
          have HXN : Hid (ifFld true 116 (⟨x0, x1, x2, x3, x4, x5, x6, x7⟩, R) = (⟨x0, x1, x2, x3, x4, (k : Int), x6, x7⟩, Q)) := by show _ = _; simp [ifFld, rdFldV, hk, hQ]
          go_wp2_with fail
          refine (int_any HD.out.ev.rd 5 (by omega)).mono ?_
          rintro x wA ⟨rfl, hA⟩
          rw [hk]
          rw [hQ] at hA
          have HDx := Lib.hid (HD.out.call hA)
          clear hA HD
          have a0 : wA.cell? ⟨xb, 5, none⟩ = some (.int .i64 x5) := HDx.out.ev.cell 5
          have a1 := HDx.out.ev.free 5
          have HDy : Hid (EvD w (wA.setCell ⟨xb, 5, none⟩ (.int .i64 (k : Int))) rb xb pm Q ⟨x0, x1, x2, x3, x4, (k : Int), x6, x7⟩ (n2 : Int)) := HDx.out.store 5 _ _ rfl
          clear HDx
          go_wp2_with fail
          go_meet
          rw [HXN.out]
          exact HDy.out
      case rest =>
        have HD2 := hcut
        clear hcut HD S6
        generalize ifFld b6 116 (⟨x0, x1, x2, x3, x4, x5, x6, x7⟩, R) = X at *
        obtain ⟨⟨x0, x1, x2, x3, x4, x5, x6, x7⟩, R⟩ := X
        simp only at HD2
        have HD := HD2
        clear HD2
        go_wp2_with fail
        refine (S7.out _ _ HD.out.m).mono ?_
        rintro e w9 ⟨rfl, rfl⟩
        go_upto_if 38 with (fail)
        go_cut [] from 37 (fun wx => Hid (EvD w wx rb xb pm (ifFld b7 117 (⟨x0, x1, x2, x3, x4, x5, x6, x7⟩, R)).2 (ifFld b7 117 (⟨x0, x1, x2, x3, x4, x5, x6, x7⟩, R)).1 (n2 : Int)))
        case first =>
          cases b7 with
          | false =>
            go_wp2_with fail
            go_meet
            exact HD.out
          | true =>
            obtain ⟨k, hk⟩ : ∃ k, (intS 1 R).1 = k := ⟨_, rfl⟩
            obtain ⟨Q, hQ⟩ : ∃ Q, (intS 1 R).2 = Q := ⟨_, rfl⟩
            have HXN : Hid (ifFld true 117 (⟨x0, x1, x2, x3, x4, x5, x6, x7⟩, R) = (⟨x0, x1, x2, x3, x4, x5, decide (k = 1), x7⟩, Q)) := by show _ = _; simp [ifFld, rdFldV, hk, hQ]
            go_wp2_with fail
            refine (int_any HD.out.ev.rd 1 (by omega)).mono ?_
            rintro x wA ⟨rfl, hA⟩
            rw [hk]
            rw [hQ] at hA
            have HDx := Lib.hid (HD.out.call hA)
            clear hA HD
            have a0 : wA.cell? ⟨xb, 6, none⟩ = some (.bool x6) := HDx.out.ev.cell 6
            have a1 := HDx.out.ev.free 6
            have HDy : Hid (EvD w (wA.setCell ⟨xb, 6, none⟩ (.bool (decide (k = 1)))) rb xb pm Q ⟨x0, x1, x2, x3, x4, x5, decide (k = 1), x7⟩ (n2 : Int)) := HDx.out.store 6 _ _ rfl
            clear HDx
            have hk1 : ((k : Int) == 1) = decide (k = 1) := by by_cases h : k = 1 <;> simp [h] <;> omega
            generalize decide (k = 1) = kb at *
            go_wp2_with fail
            go_meet
            rw [HXN.out]
            exact HDy.out
        case rest =>
          have HD2 := hcut
          clear hcut HD S7
          generalize ifFld b7 117 (⟨x0, x1, x2, x3, x4, x5, x6, x7⟩, R) = X at *
          obtain ⟨⟨x0, x1, x2, x3, x4, x5, x6, x7⟩, R⟩ := X
          simp only at HD2
          have HD := HD2
          clear HD2
          go_wp2_with fail
          refine (S8.out _ _ HD.out.m).mono ?_
          rintro e w9 ⟨rfl, rfl⟩
          go_upto_if 44 with (fail)
          go_cut [] from 43 (fun wx => Hid (EvD w wx rb xb pm (ifFld b8 112 (⟨x0, x1, x2, x3, x4, x5, x6, x7⟩, R)).2 (ifFld b8 112 (⟨x0, x1, x2, x3, x4, x5, x6, x7⟩, R)).1 (n2 : Int)))
          case first =>
            cases b8 with
            | false =>
              go_wp2_with fail
              go_meet
              exact HD.out
            | true =>
              obtain ⟨k, hk⟩ : ∃ k, (⟨(textS R).1.toArray⟩ : ByteArray) = k := ⟨_, rfl⟩
              obtain ⟨Q, hQ⟩ : ∃ Q, (textS R).2 = Q := ⟨_, rfl⟩
              have htk : tv (textS R).1 = .string k := congrArg Value.string hk
              have HXN : Hid (ifFld true 112 (⟨x0, x1, x2, x3, x4, x5, x6, x7⟩, R) = (⟨x0, x1, x2, x3, x4, x5, x6, k⟩, Q)) := by show _ = _; simp [ifFld, rdFldV, hk, hQ]
              go_wp2_with fail
              refine (rtextv_any HD.out.ev.rd).mono ?_
              rintro x wA ⟨rfl, hA⟩
              rw [htk]
              rw [hQ] at hA
              have HDx := Lib.hid (HD.out.call hA)
              clear hA HD
              have a0 : wA.cell? ⟨xb, 7, none⟩ = some (.string x7) := HDx.out.ev.cell 7
              have a1 := HDx.out.ev.free 7
              have HDy : Hid (EvD w (wA.setCell ⟨xb, 7, none⟩ (.string k)) rb xb pm Q ⟨x0, x1, x2, x3, x4, x5, x6, k⟩ (n2 : Int)) := HDx.out.store 7 _ _ rfl
              clear HDx
              go_wp2_with fail
              go_meet
              rw [HXN.out]
              exact HDy.out
          case rest =>
            have HD2 := hcut
            clear hcut HD S8
            generalize ifFld b8 112 (⟨x0, x1, x2, x3, x4, x5, x6, x7⟩, R) = X at *
            obtain ⟨⟨x0, x1, x2, x3, x4, x5, x6, x7⟩, R⟩ := X
            simp only at HD2
            have HD := HD2
            clear HD2
            have hxe := HX.out.1
            have hds := HX.out.2
            rw [hxe] at hds
            have hds2 : x7.size ≤ s.size := hds
            have HYES : Hid (evB ⟨x0, x1, x2, x3, x4, x5, x6, x7⟩ = true → R = some [] → okE s.data.toList = true ∧ (rdEv (some s.data.toList)).1 = ⟨x0, x1, x2, x3, x4, x5, x6, x7⟩) := fun h1 h2 => by
              have := okE_yes (l := s.data.toList) (by rw [hxe]; exact h1) (by rw [hxe]; exact h2)
              rw [hxe] at this
              exact this
            have HNO : Hid (¬ (evB ⟨x0, x1, x2, x3, x4, x5, x6, x7⟩ = true ∧ R = some []) → okE s.data.toList = false) := fun h1 => okE_no (by rw [hxe]; exact h1)
            have HI : Hid (EvAt w wc rb xb R ⟨x0, x1, x2, x3, x4, x5, x6, x7⟩) := HD.out.ev
            have hck := check13_any ⟨x0, x1, x2, x3, x4, x5, x6, x7⟩ (by show x7.size ≤ _; omega) wc
            clear HX hds hds2 hxe HD
            have HEND := Lib.hid (end_any HI.out.rd)
            generalize wc = wr at *
            by_cases he : R = some []
            · have hE : endS R = true := by rw [he]; rfl
              rw [hE] at HEND
              have HRE := Lib.hid he
              clear hE he
              have p0 : wr.cell? ⟨xb, 0, none⟩ = some (.int .i64 x0) := HI.out.cell 0
              have p1 : wr.cell? ⟨xb, 1, none⟩ = some (.int .i64 x1) := HI.out.cell 1
              have p2 : wr.cell? ⟨xb, 2, none⟩ = some (.int .i64 x2) := HI.out.cell 2
              have p3 : wr.cell? ⟨xb, 3, none⟩ = some (.int .i64 x3) := HI.out.cell 3
              have p4 : wr.cell? ⟨xb, 4, none⟩ = some (.int .i64 x4) := HI.out.cell 4
              have p5 : wr.cell? ⟨xb, 5, none⟩ = some (.int .i64 x5) := HI.out.cell 5
              have p6 : wr.cell? ⟨xb, 6, none⟩ = some (.bool x6) := HI.out.cell 6
              have p7 : wr.cell? ⟨xb, 7, none⟩ = some (.string x7) := HI.out.cell 7
              unfold EvS.val' at hck
              simp only at hck
              by_cases hp : evB ⟨x0, x1, x2, x3, x4, x5, x6, x7⟩ = true
              · have hz : encEE ⟨x0, x1, x2, x3, x4, x5, x6, x7⟩ = 0 := if_pos hp
                rw [hz] at hck
                have HCK := Lib.hid hck
                have HOK := Lib.hid (HYES.out hp HRE.out)
                clear hck hz hp HYES HNO
                go_wp2_with fail
                refine HEND.out.mono ?_
                rintro e w5 ⟨rfl, rfl⟩
                go_wp2_with fail
                refine HCK.out.mono ?_
                rintro e w5 ⟨rfl, b5⟩
                have H5 := Lib.hid (HI.out.later b5)
                clear b5 p0 p1 p2 p3 p4 p5 p6 p7 HI HCK HEND
                have p0 : w5.cell? ⟨xb, 0, none⟩ = some (.int .i64 x0) := H5.out.cell 0
                have p1 : w5.cell? ⟨xb, 1, none⟩ = some (.int .i64 x1) := H5.out.cell 1
                have p2 : w5.cell? ⟨xb, 2, none⟩ = some (.int .i64 x2) := H5.out.cell 2
                have p3 : w5.cell? ⟨xb, 3, none⟩ = some (.int .i64 x3) := H5.out.cell 3
                have p4 : w5.cell? ⟨xb, 4, none⟩ = some (.int .i64 x4) := H5.out.cell 4
                have p5 : w5.cell? ⟨xb, 5, none⟩ = some (.int .i64 x5) := H5.out.cell 5
                have p6 : w5.cell? ⟨xb, 6, none⟩ = some (.bool x6) := H5.out.cell 6
                have p7 : w5.cell? ⟨xb, 7, none⟩ = some (.string x7) := H5.out.cell 7
                have q0 : w5.cell? ⟨w.heap.size, 0, none⟩ = some (.int .i64 0) := by rw [block_cell H5.out.res]; rfl
                have f0 := block_free H5.out.res 0
                have q1 : w5.cell? ⟨w.heap.size, 1, none⟩ = some (.int .i64 0) := by rw [block_cell H5.out.res]; rfl
                have f1 := block_free H5.out.res 1
                have q2 : w5.cell? ⟨w.heap.size, 2, none⟩ = some (.int .i64 0) := by rw [block_cell H5.out.res]; rfl
                have f2 := block_free H5.out.res 2
                have q3 : w5.cell? ⟨w.heap.size, 3, none⟩ = some (.int .i64 0) := by rw [block_cell H5.out.res]; rfl
                have f3 := block_free H5.out.res 3
                have q4 : w5.cell? ⟨w.heap.size, 4, none⟩ = some (.int .i64 0) := by rw [block_cell H5.out.res]; rfl
                have f4 := block_free H5.out.res 4
                have q5 : w5.cell? ⟨w.heap.size, 5, none⟩ = some (.int .i64 0) := by rw [block_cell H5.out.res]; rfl
                have f5 := block_free H5.out.res 5
                have q6 : w5.cell? ⟨w.heap.size, 6, none⟩ = some (.bool false) := by rw [block_cell H5.out.res]; rfl
                have f6 := block_free H5.out.res 6
                have q7 : w5.cell? ⟨w.heap.size, 7, none⟩ = some (.string ⟨#[]⟩) := by rw [block_cell H5.out.res]; rfl
                have f7 := block_free H5.out.res 7
                have HLB : Hid (∀ u0 u1 u2 u3 u4 u5 u6 u7 : Value, Below w.heap.size w ((((((((w5.setCell ⟨w.heap.size, 0, none⟩ u0).setCell ⟨w.heap.size, 1, none⟩ u1).setCell ⟨w.heap.size, 2, none⟩ u2).setCell ⟨w.heap.size, 3, none⟩ u3).setCell ⟨w.heap.size, 4, none⟩ u4).setCell ⟨w.heap.size, 5, none⟩ u5).setCell ⟨w.heap.size, 6, none⟩ u6).setCell ⟨w.heap.size, 7, none⟩ u7)) := fun u0 u1 u2 u3 u4 u5 u6 u7 =>
                  (((((((H5.out.below.setCell (p := ⟨w.heap.size, 0, none⟩) (Nat.le_refl _) u0).setCell (p := ⟨w.heap.size, 1, none⟩) (Nat.le_refl _) u1).setCell (p := ⟨w.heap.size, 2, none⟩) (Nat.le_refl _) u2).setCell (p := ⟨w.heap.size, 3, none⟩) (Nat.le_refl _) u3).setCell (p := ⟨w.heap.size, 4, none⟩) (Nat.le_refl _) u4).setCell (p := ⟨w.heap.size, 5, none⟩) (Nat.le_refl _) u5).setCell (p := ⟨w.heap.size, 6, none⟩) (Nat.le_refl _) u6).setCell (p := ⟨w.heap.size, 7, none⟩) (Nat.le_refl _) u7
                clear H5
                go_wp2
                (try simp only [Exit.inBlock, Exit.then])
                refine bodyPost_ret (v := .tuple #[EvS.val' ⟨x0, x1, x2, x3, x4, x5, x6, x7⟩, .int .i64 0]) ?_ rfl ⟨⟨x0, x1, x2, x3, x4, x5, x6, x7⟩, 0, rfl, .inl ⟨HOK.out.1, HOK.out.2.symm, rfl⟩, HLB.out _ _ _ _ _ _ _ _⟩
                rw [results_cell_tmp rfl]
                unfold EvS.val'
                (try unfold EvS.zero)
                go_simp
              · have hz : encEE ⟨x0, x1, x2, x3, x4, x5, x6, x7⟩ = 120 := if_neg hp
                rw [hz] at hck
                have HCK := Lib.hid hck
                have HOK := Lib.hid (HNO.out (fun h => hp h.1))
                clear hck hz hp HYES HNO
                go_wp2_with fail
                refine HEND.out.mono ?_
                rintro e w5 ⟨rfl, rfl⟩
                go_wp2_with fail
                refine HCK.out.mono ?_
                rintro e w5 ⟨rfl, b5⟩
                have H5 := Lib.hid (HI.out.later b5)
                clear b5 p0 p1 p2 p3 p4 p5 p6 p7 HI HCK HEND
                have q0 : w5.cell? ⟨w.heap.size, 0, none⟩ = some (.int .i64 0) := by rw [block_cell H5.out.res]; rfl
                have f0 := block_free H5.out.res 0
                have q1 : w5.cell? ⟨w.heap.size, 1, none⟩ = some (.int .i64 0) := by rw [block_cell H5.out.res]; rfl
                have f1 := block_free H5.out.res 1
                have q2 : w5.cell? ⟨w.heap.size, 2, none⟩ = some (.int .i64 0) := by rw [block_cell H5.out.res]; rfl
                have f2 := block_free H5.out.res 2
                have q3 : w5.cell? ⟨w.heap.size, 3, none⟩ = some (.int .i64 0) := by rw [block_cell H5.out.res]; rfl
                have f3 := block_free H5.out.res 3
                have q4 : w5.cell? ⟨w.heap.size, 4, none⟩ = some (.int .i64 0) := by rw [block_cell H5.out.res]; rfl
                have f4 := block_free H5.out.res 4
                have q5 : w5.cell? ⟨w.heap.size, 5, none⟩ = some (.int .i64 0) := by rw [block_cell H5.out.res]; rfl
                have f5 := block_free H5.out.res 5
                have q6 : w5.cell? ⟨w.heap.size, 6, none⟩ = some (.bool false) := by rw [block_cell H5.out.res]; rfl
                have f6 := block_free H5.out.res 6
                have q7 : w5.cell? ⟨w.heap.size, 7, none⟩ = some (.string ⟨#[]⟩) := by rw [block_cell H5.out.res]; rfl
                have f7 := block_free H5.out.res 7
                have HLB : Hid (∀ u0 u1 u2 u3 u4 u5 u6 u7 : Value, Below w.heap.size w ((((((((w5.setCell ⟨w.heap.size, 0, none⟩ u0).setCell ⟨w.heap.size, 1, none⟩ u1).setCell ⟨w.heap.size, 2, none⟩ u2).setCell ⟨w.heap.size, 3, none⟩ u3).setCell ⟨w.heap.size, 4, none⟩ u4).setCell ⟨w.heap.size, 5, none⟩ u5).setCell ⟨w.heap.size, 6, none⟩ u6).setCell ⟨w.heap.size, 7, none⟩ u7)) := fun u0 u1 u2 u3 u4 u5 u6 u7 =>
                  (((((((H5.out.below.setCell (p := ⟨w.heap.size, 0, none⟩) (Nat.le_refl _) u0).setCell (p := ⟨w.heap.size, 1, none⟩) (Nat.le_refl _) u1).setCell (p := ⟨w.heap.size, 2, none⟩) (Nat.le_refl _) u2).setCell (p := ⟨w.heap.size, 3, none⟩) (Nat.le_refl _) u3).setCell (p := ⟨w.heap.size, 4, none⟩) (Nat.le_refl _) u4).setCell (p := ⟨w.heap.size, 5, none⟩) (Nat.le_refl _) u5).setCell (p := ⟨w.heap.size, 6, none⟩) (Nat.le_refl _) u6).setCell (p := ⟨w.heap.size, 7, none⟩) (Nat.le_refl _) u7
                clear H5
                go_wp2
                (try simp only [Exit.inBlock, Exit.then])
                refine bodyPost_ret (v := .tuple #[EvS.val' EvS.zero, .int .i64 60]) ?_ rfl ⟨EvS.zero, 60, rfl, .inr ⟨HOK.out, rfl, rfl⟩, HLB.out _ _ _ _ _ _ _ _⟩
                rw [results_cell_tmp rfl]
                unfold EvS.val'
                (try unfold EvS.zero)
                go_simp
            · have hE : endS R = false := by
                unfold endS
                rw [beq_eq_false_iff_ne]
                exact he
              rw [hE] at HEND
              have HOK := Lib.hid (HNO.out (fun h => he h.2))
              clear hE he hck HYES HNO
              go_wp2_with fail
              refine HEND.out.mono ?_
              rintro e w5 ⟨rfl, rfl⟩
              have q0 : wr.cell? ⟨w.heap.size, 0, none⟩ = some (.int .i64 0) := by rw [block_cell HI.out.res]; rfl
              have f0 := block_free HI.out.res 0
              have q1 : wr.cell? ⟨w.heap.size, 1, none⟩ = some (.int .i64 0) := by rw [block_cell HI.out.res]; rfl
              have f1 := block_free HI.out.res 1
              have q2 : wr.cell? ⟨w.heap.size, 2, none⟩ = some (.int .i64 0) := by rw [block_cell HI.out.res]; rfl
              have f2 := block_free HI.out.res 2
              have q3 : wr.cell? ⟨w.heap.size, 3, none⟩ = some (.int .i64 0) := by rw [block_cell HI.out.res]; rfl
              have f3 := block_free HI.out.res 3
              have q4 : wr.cell? ⟨w.heap.size, 4, none⟩ = some (.int .i64 0) := by rw [block_cell HI.out.res]; rfl
              have f4 := block_free HI.out.res 4
              have q5 : wr.cell? ⟨w.heap.size, 5, none⟩ = some (.int .i64 0) := by rw [block_cell HI.out.res]; rfl
              have f5 := block_free HI.out.res 5
              have q6 : wr.cell? ⟨w.heap.size, 6, none⟩ = some (.bool false) := by rw [block_cell HI.out.res]; rfl
              have f6 := block_free HI.out.res 6
              have q7 : wr.cell? ⟨w.heap.size, 7, none⟩ = some (.string ⟨#[]⟩) := by rw [block_cell HI.out.res]; rfl
              have f7 := block_free HI.out.res 7
              have HLB : Hid (∀ u0 u1 u2 u3 u4 u5 u6 u7 : Value, Below w.heap.size w ((((((((wr.setCell ⟨w.heap.size, 0, none⟩ u0).setCell ⟨w.heap.size, 1, none⟩ u1).setCell ⟨w.heap.size, 2, none⟩ u2).setCell ⟨w.heap.size, 3, none⟩ u3).setCell ⟨w.heap.size, 4, none⟩ u4).setCell ⟨w.heap.size, 5, none⟩ u5).setCell ⟨w.heap.size, 6, none⟩ u6).setCell ⟨w.heap.size, 7, none⟩ u7)) := fun u0 u1 u2 u3 u4 u5 u6 u7 =>
                (((((((HI.out.below.setCell (p := ⟨w.heap.size, 0, none⟩) (Nat.le_refl _) u0).setCell (p := ⟨w.heap.size, 1, none⟩) (Nat.le_refl _) u1).setCell (p := ⟨w.heap.size, 2, none⟩) (Nat.le_refl _) u2).setCell (p := ⟨w.heap.size, 3, none⟩) (Nat.le_refl _) u3).setCell (p := ⟨w.heap.size, 4, none⟩) (Nat.le_refl _) u4).setCell (p := ⟨w.heap.size, 5, none⟩) (Nat.le_refl _) u5).setCell (p := ⟨w.heap.size, 6, none⟩) (Nat.le_refl _) u6).setCell (p := ⟨w.heap.size, 7, none⟩) (Nat.le_refl _) u7
              clear HI
              go_wp2
              (try simp only [Exit.inBlock, Exit.then])
              refine bodyPost_ret (v := .tuple #[EvS.val' EvS.zero, .int .i64 60]) ?_ rfl ⟨EvS.zero, 60, rfl, .inr ⟨HOK.out, rfl, rfl⟩, HLB.out _ _ _ _ _ _ _ _⟩
              rw [results_cell_tmp rfl]
              unfold EvS.val'
              (try unfold EvS.zero)
              go_simp
end Go.Proofs.Ythliofijioghkaa

/- Joined: W12 W12b W12c W12d. -/
import Derived.Test.YtlkfpeefjpmmfaaJ15
import Derived.Test.YtlkfpeefjpmmfaaJ23
import Derived.Deep.Cut
import Derived.Test.YtlkfpeefjpmmfaaJ09

namespace Go.Proofs.Ytlkfpeefjpmmfaa
open Go.RowKit
set_option linter.unusedVariables false

set_option maxHeartbeats 1000000 in
set_option maxRecDepth 100000 in
theorem named_any (s : ByteArray) (hs : s.size ≤ maxLen) (w : World) :
    Calls Try.prog 76 #[.string s] w fun e w' => e = .returned (.bool (nameB s)) ∧ w' = w := by
  have hs2 : s.size ≤ 9223372036854775807 := by unfold maxLen at hs; omega
  have hl : s.data.toList.length = s.size := by simp
  have HNM : Hid (s.data.toList.all byteB = true → nameB s = (decide (1 ≤ s.size) && decide (s.size ≤ 16))) := fun h => by unfold nameB; rw [h]; rfl
  have HNO : Hid (s.data.toList.all byteB = false → nameB s = false) := fun h => by unfold nameB; rw [h]; rfl
  have HNS : Hid (nameB s = true → 1 ≤ s.size ∧ s.size ≤ 16) := fun h => name_size h
  generalize nameB s = NB at *
  go_enter Try.func76, Try.ntmps76
  by_cases h1 : (s.size : Int) < 1
  · have HN : Hid (NB = false) := by
      show _ = _
      cases NB with
      | false => rfl
      | true => have := (HNS.out rfl).1; omega
    go_wp2
    go_ret
    exact ⟨by rw [HN.out]; rfl, rfl⟩
  · by_cases h2 : (16 : Int) < (s.size : Int)
    · have HN : Hid (NB = false) := by
        show _ = _
        cases NB with
        | false => rfl
        | true => have := (HNS.out rfl).2; omega
      go_wp2
      go_ret
      exact ⟨by rw [HN.out]; rfl, rfl⟩
    · have HSZ : Hid (1 ≤ s.size ∧ s.size ≤ 16) := ⟨by omega, by omega⟩
      go_wp2
      go_loop [14] (fun iv => ∃ i : Nat, i ≤ s.size ∧ iv = .int .i64 (i : Int) ∧ Hid ((s.data.toList.take i).all byteB = true)) (fun iv => s.size - (intOf iv).toNat)
      case atStart => exact ⟨0, Nat.zero_le _, rfl, rfl⟩
      case round =>
        obtain ⟨i, hi, rfl, HA⟩ := hrel
        by_cases hlt : i < s.size
        · have HT := Lib.hid (all_take (l := s.data.toList) (i := i) (by omega))
          have HB := Lib.hid (all_no (l := s.data.toList) (i := i) (by omega))
          have hgi : s.data.toList[i]'(by omega) = s[i] := by simp; rfl
          rw [hgi] at HT HB
          have hbq := byteB_eq s[i]
          have hmes : s.size - (intOf (.int .i64 ((i : Int) + 1))).toNat < s.size - (intOf (.int .i64 (i : Int))).toNat := by simp [intOf]; omega
          by_cases h3 : ((s[i].toNat : Nat) : Int) < 33
          · have hb : byteB s[i] = false := by rw [hbq]; simp [h3]
            have HN := Lib.hid (HNO.out (HB.out hb))
            clear hbq hgi
            go_wp2
            go_ret
            exact ⟨by rw [HN.out]; rfl, rfl⟩
          · by_cases h4 : (126 : Int) < ((s[i].toNat : Nat) : Int)
            · have hb : byteB s[i] = false := by rw [hbq]; simp [h4]
              have HN := Lib.hid (HNO.out (HB.out hb))
              clear hbq hgi
              go_wp2
              go_ret
              exact ⟨by rw [HN.out]; rfl, rfl⟩
            · have hb : byteB s[i] = true := by rw [hbq]; simp [h3, h4]
              have HA2 : Hid ((s.data.toList.take (i + 1)).all byteB = true) := by show _ = _; rw [HT.out, HA.out, hb]; rfl
              clear hbq hgi
              go_wp2
              go_round
              case rel => exact ⟨i + 1, by omega, by go_num, HA2.out⟩
              case measure => exact hmes
        · obtain rfl : i = s.size := by omega
          have HN : Hid (NB = true) := by
            show _ = _
            have := HNM.out (by have := HA.out; rwa [List.take_of_length_le (by omega)] at this)
            rw [this]
            have := HSZ.out
            simp; omega
          go_wp2
          go_ret
          exact ⟨by rw [HN.out]; rfl, rfl⟩

set_option maxHeartbeats 1000000 in
theorem tries_any (n : Int) (w : World) :
    Calls Try.prog 92 #[.int .i64 n] w fun e w' => e = .returned (.bool (inB n 1 5)) ∧ w' = w := by
  have HI : Hid (inB n 1 5 = (decide (1 ≤ n) && decide (n ≤ 5))) := rfl
  generalize inB n 1 5 = IB at *
  go_enter Try.func92, Try.ntmps92
  by_cases h1 : 1 ≤ n
  · by_cases h2 : n ≤ 5
    · go_wp2
      go_ret
      exact ⟨by rw [HI.out]; congr 1; simp; omega, rfl⟩
    · go_wp2
      go_ret
      exact ⟨by rw [HI.out]; congr 1; simp; omega, rfl⟩
  · go_wp2
    go_ret
    exact ⟨by rw [HI.out]; congr 1; simp; omega, rfl⟩

/-- What isUndo answers. -/
def undoV (s : ByteArray) (n : Int) : Bool := if s.size = 0 then decide (n = 0) else nameB s && inB n 1 5
set_option maxHeartbeats 1000000 in
set_option maxRecDepth 100000 in
theorem undo_any (s : ByteArray) (n : Int) (hs : s.size ≤ maxLen) (w : World) :
    Calls Try.prog 93 #[.string s, .int .i64 n] w fun e w' => e = .returned (.bool (undoV s n)) ∧ w' = w := by
  by_cases h0 : s.size = 0
  · have HU : Hid (undoV s n = decide (n = 0)) := if_pos h0
    have h1 : (s.toList == []) = true := by rw [beq_iff_eq]; exact (empty_iff s).2 h0
    generalize undoV s n = U at *
    clear h0
    go_enter Try.func93, Try.ntmps93
    go_wp2
    go_ret
    exact ⟨by rw [HU.out]; congr 1, rfl⟩
  · have HU : Hid (undoV s n = (nameB s && inB n 1 5)) := if_neg h0
    have h1 : (s.toList == []) = false := by rw [beq_eq_false_iff_ne]; exact fun e => h0 ((empty_iff s).1 e)
    have HNA := Lib.hid (named_any s hs)
    generalize undoV s n = U at *
    generalize nameB s = NB at *
    clear h0
    go_enter Try.func93, Try.ntmps93
    go_wp2_with fail
    refine (HNA.out _).mono ?_
    rintro e w1 ⟨rfl, rfl⟩
    cases NB with
    | false =>
      go_wp2
      go_ret
      exact ⟨by rw [HU.out]; rfl, rfl⟩
    | true =>
      go_wp2_with fail
      refine (tries_any _ _).mono ?_
      rintro e w2 ⟨rfl, rfl⟩
      go_wp2
      go_ret
      exact ⟨by rw [HU.out]; rfl, rfl⟩

theorem results_cell12 {fn : Func} {p : Tmp} {ty : TypeId} (h : fn.results = #[.cell p ty]) (tmps : Array Value) (P : Program) (w : World) :
    (results fn tmps).run P w = ((asAddr (tmps.getD p undef)).run P w).andThen fun a w₁ => (loadVar ty a).run P w₁ := by
  simp only [results, h]
  simp [Sem.run_bind]
/-- A step with nothing but what its kind has. -/
def kindS (x : StepS) : StepS :=
  if x.kind = 1 then ⟨x.kind, x.name, x.undo, x.tries, x.undoTries, 0⟩
  else if x.kind = 2 then ⟨x.kind, ⟨#[]⟩, ⟨#[]⟩, 0, 0, x.wait⟩
  else if x.kind = 3 then ⟨x.kind, x.name, ⟨#[]⟩, 0, 0, 0⟩
  else ⟨0, ⟨#[]⟩, ⟨#[]⟩, 0, 0, 0⟩
theorem set6_below {w w2 : World} {B g : Nat} (h : Below B w w2) (hg : B ≤ g) (a b c d e f : Value) :
    Below B w ((((((w2.setCell ⟨g, 0, none⟩ a).setCell ⟨g, 1, none⟩ b).setCell ⟨g, 2, none⟩ c).setCell ⟨g, 3, none⟩ d).setCell ⟨g, 4, none⟩ e).setCell ⟨g, 5, none⟩ f) :=
  (((((h.setCell (p := ⟨g, 0, none⟩) hg a).setCell (p := ⟨g, 1, none⟩) hg b).setCell (p := ⟨g, 2, none⟩) hg c).setCell (p := ⟨g, 3, none⟩) hg d).setCell (p := ⟨g, 4, none⟩) hg e).setCell (p := ⟨g, 5, none⟩) hg f
set_option maxHeartbeats 4000000 in
set_option maxRecDepth 100000 in
theorem kind_any (x : StepS) (w : World) :
    Calls Try.prog 91 #[x.val'] w fun e w' => e = .returned (kindS x).val' ∧ Below w.heap.size w w' := by
  obtain ⟨kind, name, undo, tries, undoTries, wait⟩ := x
  obtain ⟨w1, hw1⟩ : ∃ w1, w.alloc (.cells #[.int .i64 kind, .string name, .string undo, .int .i64 tries, .int .i64 undoTries, .int .i64 wait] 53) = w1 := ⟨_, rfl⟩
  have hb1 : Below w.heap.size w w1 := by rw [← hw1]; exact (Below.refl _ w).alloc (Nat.le_refl _) _
  have hs1 : w1.heap.size = w.heap.size + 1 := by rw [← hw1]; simp
  have hnw : w1.heap[w.heap.size]? = some (.cells #[.int .i64 kind, .string name, .string undo, .int .i64 tries, .int .i64 undoTries, .int .i64 wait] 53 (0, 0)) := by rw [← hw1]; exact heap_alloc_new _ _
  obtain ⟨w2, hw2⟩ : ∃ w2, w1.alloc (.cells #[.int .i64 0, .string ⟨#[]⟩, .string ⟨#[]⟩, .int .i64 0, .int .i64 0, .int .i64 0] 53) = w2 := ⟨_, rfl⟩
  have hb2 : Below w1.heap.size w1 w2 := by rw [← hw2]; exact (Below.refl _ w1).alloc (Nat.le_refl _) _
  have hn2 : w2.heap[w.heap.size]? = some (.cells #[.int .i64 kind, .string name, .string undo, .int .i64 tries, .int .i64 undoTries, .int .i64 wait] 53 (0, 0)) := by rw [hb2.block _ (by omega)]; exact hnw
  have hn3 : w2.heap[w1.heap.size]? = some (.cells #[.int .i64 0, .string ⟨#[]⟩, .string ⟨#[]⟩, .int .i64 0, .int .i64 0, .int .i64 0] 53 (0, 0)) := by rw [← hw2]; exact heap_alloc_new _ _
  have c0 := (block_cell hn2 0).trans rfl
  have c1 := (block_cell hn2 1).trans rfl
  have c2 := (block_cell hn2 2).trans rfl
  have c3 := (block_cell hn2 3).trans rfl
  have c4 := (block_cell hn2 4).trans rfl
  have c5 := (block_cell hn2 5).trans rfl
  have d0 := (block_cell hn3 0).trans rfl
  have d1 := (block_cell hn3 1).trans rfl
  have d2 := (block_cell hn3 2).trans rfl
  have d3 := (block_cell hn3 3).trans rfl
  have d4 := (block_cell hn3 4).trans rfl
  have d5 := (block_cell hn3 5).trans rfl
  have f0 := block_free hn3 0
  have f1 := block_free hn3 1
  have f2 := block_free hn3 2
  have f3 := block_free hn3 3
  have f4 := block_free hn3 4
  have f5 := block_free hn3 5
  have HB := Lib.hid (hb1.trans (hb2.mono hb1.size))
  have HS := Lib.hid hs1
  clear hb1 hb2 hn2 hn3 hnw hs1
  go_enter Try.func91, Try.ntmps91
  unfold StepS.val'
  by_cases h1 : kind = 1
  · subst h1
    have HK : Hid (kindS ⟨1, name, undo, tries, undoTries, wait⟩ = ⟨1, name, undo, tries, undoTries, 0⟩) := rfl
    go_wp2
    (try simp only [Exit.inBlock, Exit.then])
    refine bodyPost_ret (v := .agg #[.int .i64 1, .string name, .string undo, .int .i64 tries, .int .i64 undoTries, .int .i64 0]) ?_ rfl ⟨by rw [HK.out], ?_⟩
    · rw [results_cell12 rfl]
      go_simp
    · exact set6_below HB.out (by have := HS.out; omega) _ _ _ _ _ _
  · by_cases h2 : kind = 2
    · subst h2
      have HK : Hid (kindS ⟨2, name, undo, tries, undoTries, wait⟩ = ⟨2, ⟨#[]⟩, ⟨#[]⟩, 0, 0, wait⟩) := rfl
      go_wp2
      (try simp only [Exit.inBlock, Exit.then])
      refine bodyPost_ret (v := .agg #[.int .i64 2, .string ⟨#[]⟩, .string ⟨#[]⟩, .int .i64 0, .int .i64 0, .int .i64 wait]) ?_ rfl ⟨by rw [HK.out], ?_⟩
      · rw [results_cell12 rfl]
        go_simp
      · exact set6_below HB.out (by have := HS.out; omega) _ _ _ _ _ _
    · by_cases h3 : kind = 3
      · subst h3
        have HK : Hid (kindS ⟨3, name, undo, tries, undoTries, wait⟩ = ⟨3, name, ⟨#[]⟩, 0, 0, 0⟩) := rfl
        go_wp2
        (try simp only [Exit.inBlock, Exit.then])
        refine bodyPost_ret (v := .agg #[.int .i64 3, .string name, .string ⟨#[]⟩, .int .i64 0, .int .i64 0, .int .i64 0]) ?_ rfl ⟨by rw [HK.out], ?_⟩
        · rw [results_cell12 rfl]
          go_simp
        · exact set6_below HB.out (by have := HS.out; omega) _ _ _ _ _ _
      · have HK : Hid (kindS ⟨kind, name, undo, tries, undoTries, wait⟩ = ⟨0, ⟨#[]⟩, ⟨#[]⟩, 0, 0, 0⟩) := by show _ = _; unfold kindS; simp only; rw [if_neg h1, if_neg h2, if_neg h3]
        have hb1 : (kind == 1) = false := by rw [beq_eq_false_iff_ne]; exact h1
        have hb2 : (kind == 2) = false := by rw [beq_eq_false_iff_ne]; exact h2
        have hb3 : (kind == 3) = false := by rw [beq_eq_false_iff_ne]; exact h3
        clear h1 h2 h3
        go_wp2
        (try simp only [Exit.inBlock, Exit.then])
        refine bodyPost_ret (v := .agg #[.int .i64 0, .string ⟨#[]⟩, .string ⟨#[]⟩, .int .i64 0, .int .i64 0, .int .i64 0]) ?_ rfl ⟨by rw [HK.out], ?_⟩
        · rw [results_cell12 rfl]
          go_simp
        · exact set6_below HB.out (by have := HS.out; omega) _ _ _ _ _ _

theorem kind_same {x : StepS} (h : x = kindS x) : stepB x = if (x.kind == 1) = true then nameB x.name && inB x.tries 1 5 && undoV x.undo x.undoTries else if (x.kind == 2) = true then inB x.wait 1 1000 else if (x.kind == 3) = true then nameB x.name else false := by
  obtain ⟨kind, name, undo, tries, undoTries, wait⟩ := x
  unfold kindS at h
  simp only at h
  unfold stepB undoB undoV
  simp only [beq_iff_eq]
  by_cases h1 : kind = 1
  · rw [if_pos h1] at h
    injection h with _ _ _ _ _ hw
    subst hw
    simp only [if_pos h1, decide_true, Bool.and_true]
    rw [Bool.and_comm]
  · rw [if_neg h1] at h
    by_cases h2 : kind = 2
    · rw [if_pos h2] at h
      injection h with _ e1 e2 e3 e4 _
      subst e1 e2 e3 e4
      simp only [if_neg h1, if_pos h2]
      simp [ByteArray.size]
    · rw [if_neg h2] at h
      by_cases h3 : kind = 3
      · rw [if_pos h3] at h
        injection h with _ _ e2 e3 e4 e5
        subst e2 e3 e4 e5
        simp only [if_neg h1, if_neg h2, if_pos h3]
        simp [ByteArray.size]
      · simp only [if_neg h1, if_neg h2, if_neg h3]
theorem kind_not {x : StepS} (h : x ≠ kindS x) : stepB x = false := by
  cases hs : stepB x with
  | false => rfl
  | true =>
    exfalso
    apply h
    obtain ⟨kind, name, undo, tries, undoTries, wait⟩ := x
    unfold stepB at hs
    unfold kindS
    simp only at hs ⊢
    by_cases h1 : kind = 1
    · rw [if_pos h1] at hs ⊢
      simp only [Bool.and_eq_true, decide_eq_true_eq] at hs
      rw [hs.2.2]
    · rw [if_neg h1] at hs ⊢
      by_cases h2 : kind = 2
      · rw [if_pos h2] at hs ⊢
        simp only [Bool.and_eq_true, decide_eq_true_eq] at hs
        rw [ba_zero hs.1.1.1.1, ba_zero hs.1.1.1.2, hs.1.1.2, hs.1.2]
      · rw [if_neg h2] at hs ⊢
        by_cases h3 : kind = 3
        · rw [if_pos h3] at hs ⊢
          simp only [Bool.and_eq_true, decide_eq_true_eq] at hs
          rw [ba_zero hs.1.1.1.2, hs.1.1.2, hs.1.2, hs.2]
        · rw [if_neg h3] at hs
          cases hs

set_option maxHeartbeats 4000000 in
set_option maxRecDepth 100000 in
theorem isStep_any (x : StepS) (hn : x.name.size ≤ maxLen) (hu : x.undo.size ≤ maxLen) (w : World) :
    Calls Try.prog 81 #[x.val'] w fun e w' => e = .returned (.bool (stepB x)) ∧ Below w.heap.size w w' := by
  obtain ⟨y, hy⟩ : ∃ y, kindS x = y := ⟨_, rfl⟩
  have hka := kind_any x
  have hsm := @kind_same x
  have hns := @kind_not x
  rw [hy] at hka hsm hns
  have hne := fun w => step_neq x y w
  have HSM := Lib.hid hsm
  have HNS := Lib.hid hns
  clear hy hsm hns
  unfold StepS.val' at hka hne
  have HKA := Lib.hid hka
  clear hka
  obtain ⟨d, hd⟩ : ∃ d, decide (x = y) = d := ⟨_, rfl⟩
  simp only [hd] at hne
  have HD := Lib.hid hd
  clear hd
  obtain ⟨kind, name, undo, tries, undoTries, wait⟩ := x
  obtain ⟨k2, n2, u2, t2, d2, z2⟩ := y
  simp only at hn hu
  generalize stepB ⟨kind, name, undo, tries, undoTries, wait⟩ = SB at *
  obtain ⟨w1, hw1⟩ : ∃ w1, w.alloc (.cells #[.int .i64 kind, .string name, .string undo, .int .i64 tries, .int .i64 undoTries, .int .i64 wait] 53) = w1 := ⟨_, rfl⟩
  have hb1 : Below w.heap.size w w1 := by rw [← hw1]; exact (Below.refl _ w).alloc (Nat.le_refl _) _
  have hnw : w1.heap[w.heap.size]? = some (.cells #[.int .i64 kind, .string name, .string undo, .int .i64 tries, .int .i64 undoTries, .int .i64 wait] 53 (0, 0)) := by rw [← hw1]; exact heap_alloc_new _ _
  have HB := Lib.hid hb1
  have HC : Hid (∀ y : BW w1, y.w'.heap[w.heap.size]? = some (.cells #[.int .i64 kind, .string name, .string undo, .int .i64 tries, .int .i64 undoTries, .int .i64 wait] 53 (0, 0))) := fun y => (y.below.block _ (block_lt hnw)).trans hnw
  have c0 := fun y => (block_cell (HC.out y) 0).trans rfl
  have c1 := fun y => (block_cell (HC.out y) 1).trans rfl
  have c2 := fun y => (block_cell (HC.out y) 2).trans rfl
  have c3 := fun y => (block_cell (HC.out y) 3).trans rfl
  have c4 := fun y => (block_cell (HC.out y) 4).trans rfl
  have c5 := fun y => (block_cell (HC.out y) 5).trans rfl
  unfold StepS.val'
  clear hb1 hnw
  go_enter Try.func81, Try.ntmps81
  go_upto_region 1 with (fail)
  refine region_class (w := w1) ⟨w1, Below.refl _ _⟩ rfl (by kernel_rfl) (by kernel_rfl) ?_
  repeat (go_big_quiet_step ((go_at_call 91; exact class_call (HKA.out _))))
  refine wpQuiet_nil ?_
  rintro _ ⟨y, rfl⟩
  have BY := Lib.hid (HB.out.trans (y.below.mono HB.out.size))
  cases d with
  | false =>
    have HN : Hid (SB = false) := HNS.out (of_decide_eq_false HD.out)
    go_wp2
    go_ret
    exact ⟨by rw [HN.out]; rfl, BY.out⟩
  | true =>
    have HS := Lib.hid (HSM.out (of_decide_eq_true HD.out))
    simp only at HS
    have HNN := Lib.hid (named_any name hn)
    have HUU := Lib.hid (undo_any undo undoTries hu)
    clear HKA hne
    go_wp2_with (first
      | (go_at_call 76; refine (HNN.out _).mono ?_; rintro e w1 ⟨rfl, rfl⟩)
      | (go_at_call 92; refine (tries_any _ _).mono ?_; rintro e w1 ⟨rfl, rfl⟩)
      | (go_at_call 93; refine (HUU.out _).mono ?_; rintro e w1 ⟨rfl, rfl⟩))
    all_goals go_ret
    all_goals refine ⟨?_, BY.out⟩
    all_goals rw [HS.out]
    all_goals clear HS HSM HNS HNN HUU BY HD HB HC c0 c1 c2 c3 c4 c5
    all_goals clear hw1
    all_goals first | (simp [*, inB]; done) | (simp [*, inB]; omega) | (simp_all [inB]; done) | (simp_all [inB]; intros; omega)
end Go.Proofs.Ytlkfpeefjpmmfaa

namespace Go.Proofs.Ytlkfpeefjpmmfaa
open Go.RowKit
set_option linter.unusedVariables false

set_option maxHeartbeats 4000000 in
set_option maxRecDepth 100000 in
theorem check_any {w : World} {a : Option Addr} {c : Nat} (p : ProgS) (h : ReadG w (.slice a p.steps.length c) p.steps) :
    Calls Try.prog 65 #[p.val' a c] w fun e w' => e = .returned (.int .i64 (encE p : Nat)) ∧ Below w.heap.size w w' := by
  obtain ⟨l, lim⟩ := p
  have hml : l.length ≤ 9223372036854775807 := by have := h.1; unfold maxLen at this; omega
  have HP : Hid (progB ⟨l, lim⟩ = (decide (l.length ≤ 16) && inB lim 0 16000 && l.all stepB)) := rfl
  have HE1 : Hid (progB ⟨l, lim⟩ = true → encE ⟨l, lim⟩ = 0) := fun h => if_pos h
  have HE2 : Hid (progB ⟨l, lim⟩ = false → encE ⟨l, lim⟩ = 130) := fun h => if_neg (by rw [h]; decide)
  generalize progB ⟨l, lim⟩ = PB at *
  generalize encE ⟨l, lim⟩ = EE at *
  have hb0 : Below w.heap.size w (w.alloc (.cells #[.slice a l.length c, .int .i64 lim] 26)) := (Below.refl _ w).alloc (Nat.le_refl _) _
  have hnw := heap_alloc_new w (.cells #[.slice a l.length c, .int .i64 lim] 26)
  have HNW := Lib.hid hnw
  have H := Lib.hid (h.below hb0)
  have HB := Lib.hid hb0
  have c0 := (block_cell hnw 0).trans rfl
  have c1 := (block_cell hnw 1).trans rfl
  unfold ProgS.val'
  simp only
  clear h hb0 hnw
  go_enter Try.func65, Try.ntmps65
  by_cases h16 : (16 : Int) < (l.length : Int)
  · have HN : Hid (EE = 130) := HE2.out (by rw [HP.out]; simp; omega)
    go_wp2
    go_ret
    exact ⟨by rw [HN.out]; rfl, HB.out⟩
  · by_cases hn0 : lim < 0
    · have HN : Hid (EE = 130) := HE2.out (by rw [HP.out]; simp [inB]; omega)
      go_wp2
      go_ret
      exact ⟨by rw [HN.out]; rfl, HB.out⟩
    · by_cases hn1 : (16000 : Int) < lim
      · have HN : Hid (EE = 130) := HE2.out (by rw [HP.out]; simp [inB]; omega)
        go_wp2
        go_ret
        exact ⟨by rw [HN.out]; rfl, HB.out⟩
      · have HIN : Hid (inB lim 0 16000 = true ∧ l.length ≤ 16) := ⟨by rw [inB_iff]; omega, by omega⟩
        go_wp2
        clear c1 hn0 hn1
        generalize w.alloc (.cells #[.slice a l.length c, .int .i64 lim] 26) = w0 at *
        go_loopw [22] (fun iv wr => ∃ i : Nat, i ≤ l.length ∧ iv = .int .i64 (i : Int) ∧ Hid (Below w0.heap.size w0 wr ∧ (l.take i).all stepB = true)) (fun iv _ => l.length - (intOf iv).toNat)
        case atStart => exact ⟨0, Nat.zero_le _, rfl, Below.refl _ _, rfl⟩
        case round =>
          obtain ⟨i, hi, rfl, HI⟩ := hrel
          by_cases hlt : i < l.length
          · obtain ⟨b, o, rfl, q0, q1, q2, q3, q4, q5, s1, s2⟩ := (H.out.below HI.out.1).at hlt
            have HT := Lib.hid (all_steps hlt)
            have HN := Lib.hid (all_not hlt)
            have hmes : l.length - (intOf (.int .i64 ((i : Int) + 1))).toNat < l.length - (intOf (.int .i64 (i : Int))).toNat := by simp [intOf]; omega
            have hst := fun w => isStep_any l[i] s1 s2 w
            generalize l[i] = x at *
            obtain ⟨w1, hw1⟩ : ∃ w1, wr.alloc (.cells #[.int .i64 x.kind, .string x.name, .string x.undo, .int .i64 x.tries, .int .i64 x.undoTries, .int .i64 x.wait] 53) = w1 := ⟨_, rfl⟩
            have hb1 : Below wr.heap.size wr w1 := by rw [← hw1]; exact (Below.refl _ _).alloc (Nat.le_refl _) _
            have hn1 : w1.heap[wr.heap.size]? = some (.cells #[.int .i64 x.kind, .string x.name, .string x.undo, .int .i64 x.tries, .int .i64 x.undoTries, .int .i64 x.wait] 53 (0, 0)) := by rw [← hw1]; exact heap_alloc_new _ _
            have d0 := (block_cell hn1 0).trans rfl
            have d1 := (block_cell hn1 1).trans rfl
            have d2 := (block_cell hn1 2).trans rfl
            have d3 := (block_cell hn1 3).trans rfl
            have d4 := (block_cell hn1 4).trans rfl
            have d5 := (block_cell hn1 5).trans rfl
            have HB1 := Lib.hid (HI.out.1.trans (hb1.mono HI.out.1.size))
            unfold StepS.val' at hst
            have HST := Lib.hid hst
            clear hst hb1 hn1
            go_wp2_with fail
            refine (HST.out _).mono ?_
            rintro e w2 ⟨rfl, b2⟩
            have HB2 := Lib.hid (HB1.out.trans (b2.mono HB1.out.size))
            by_cases hx : stepB x = true
            · rw [hx]
              have HA : Hid ((l.take (i + 1)).all stepB = true) := by show _ = _; rw [HT.out, HI.out.2, hx]; rfl
              clear hx q0 q1 q2 q3 q4 q5 b2 d0 d1 d2 d3 d4 d5
              go_wp2
              go_roundw
              case rel => exact ⟨i + 1, by omega, by go_num, HB2.out, HA.out⟩
              case measure => exact hmes
            · rw [Bool.not_eq_true] at hx
              rw [hx]
              have HA := Lib.hid (HN.out hx)
              have HF : Hid (EE = 130) := HE2.out (by rw [HP.out, HA.out]; simp)
              clear hx q0 q1 q2 q3 q4 q5 b2 d0 d1 d2 d3 d4 d5
              go_wp2
              go_ret
              exact ⟨by rw [HF.out]; rfl, HB.out.trans (HB2.out.mono HB.out.size)⟩
          · obtain rfl : i = l.length := by omega
            have HA : Hid (l.all stepB = true) := by have := HI.out.2; rwa [List.take_length] at this
            have HF : Hid (EE = 0) := HE1.out (by rw [HP.out, HA.out, HIN.out.1]; simp; exact HIN.out.2)
            go_wp2
            go_ret
            exact ⟨by rw [HF.out]; rfl, HB.out.trans (HI.out.1.mono HB.out.size)⟩

end Go.Proofs.Ytlkfpeefjpmmfaa

namespace Go.Proofs.Ytlkfpeefjpmmfaa
open Go.RowKit
set_option linter.unusedVariables false

theorem text_small {s : ByteArray} (h : s.size ≤ 16) : (bx (textL s)).size ≤ 18 := by
  have := putL_small (n := s.size) (by omega)
  have e : s.data.toList.length = s.size := by simp
  rw [bx_size]; unfold textL; rw [List.length_append]; omega

end Go.Proofs.Ytlkfpeefjpmmfaa

namespace Go.Proofs.Ytlkfpeefjpmmfaa
open Go.RowKit
set_option linter.unusedVariables false

end Go.Proofs.Ytlkfpeefjpmmfaa

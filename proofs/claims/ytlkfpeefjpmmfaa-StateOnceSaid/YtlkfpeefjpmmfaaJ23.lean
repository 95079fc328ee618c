/- Joined: W14b I20. -/
import Derived.Test.YtlkfpeefjpmmfaaJ22
import Derived.Test.YtlkfpeefjpmmfaaJ07
import Derived.BigQuiet
import Derived.Deep.QuietTactic

namespace Go.Proofs.Ytlkfpeefjpmmfaa
open Go.RowKit
set_option linter.unusedVariables false

/-- Where the first one of a list stands that is asked for; -1: nowhere. -/
def idxL {α : Type} (p : α → Bool) (l : List α) : Int := match l.findIdx? p with | some i => (i : Int) | none => -1
theorem idx_hit {α : Type} {p : α → Bool} {l : List α} {i : Nat} (h : i < l.length) (h0 : ∀ x ∈ l.take i, p x = false) (hp : p l[i] = true) : l.findIdx? p = some i := by
  rw [List.findIdx?_eq_some_iff_getElem]
  refine ⟨h, hp, fun j hj hc => ?_⟩
  have := h0 l[j] (by rw [List.mem_take_iff_getElem]; exact ⟨j, by omega, rfl⟩)
  rw [this] at hc
  cases hc
theorem idx_any {α : Type} (p : α → Bool) (l : List α) : decide (0 ≤ idxL p l) = l.any p := by
  unfold idxL
  cases h : l.findIdx? p with
  | none =>
    rw [any_none.2 h]
    rfl
  | some i =>
    rw [any_found.2 ⟨i, h⟩]
    exact decide_eq_true (Int.natCast_nonneg i)
theorem none_next {α : Type} {p : α → Bool} {l : List α} {i : Nat} (h : i < l.length) (h0 : ∀ x ∈ l.take i, p x = false) (hp : p l[i] = false) : ∀ x ∈ l.take (i + 1), p x = false := by
  intro x hx
  rw [List.take_succ_eq_append_getElem h] at hx
  rcases List.mem_append.1 hx with hx | hx
  · exact h0 x hx
  · rw [List.mem_singleton.1 hx]; exact hp

set_option maxHeartbeats 1000000 in
set_option maxRecDepth 100000 in
theorem triedBy_any (e : EvS) (w : World) :
    Calls Try.prog 34 #[e.val'] w fun x w' => x = .returned (.func (.func 66) #[] #[.pointer (some ⟨w.heap.size, 0, none⟩)]) ∧ EvBox w' w.heap.size e ∧ Below w.heap.size w w' := by
  obtain ⟨w1, hw1, b1, X1, hs1⟩ := evBoxed w e
  have B1 := Lib.hid b1
  have HX := Lib.hid X1
  unfold EvS.val'
  clear b1 X1 hs1
  go_enter Try.func34, Try.ntmps34
  go_wp2
  go_ret
  exact ⟨rfl, HX.out, B1.out⟩
set_option maxHeartbeats 1000000 in
set_option maxRecDepth 100000 in
theorem triedBy1_any {w : World} {b : Nat} {e : EvS} (h : EvBox w b e) (x : JobS) :
    Calls Try.prog 66 #[x.val', .pointer (some ⟨b, 0, none⟩)] w fun r w' => r = .returned (.bool (isT e x)) ∧ Below w.heap.size w w' := by
  obtain ⟨w1, hw1⟩ : ∃ w1, w.alloc (.cells #[.int .i64 x.id, .int .i64 x.step, .bool x.undo, .int .i64 x.tryN] 49) = w1 := ⟨_, rfl⟩
  have b1 : Below w.heap.size w w1 := by rw [← hw1]; exact (Below.refl _ w).alloc (Nat.le_refl _) _
  have hn1 : w1.heap[w.heap.size]? = some (.cells #[.int .i64 x.id, .int .i64 x.step, .bool x.undo, .int .i64 x.tryN] 49 (0, 0)) := by rw [← hw1]; exact heap_alloc_new _ _
  obtain ⟨q0, q1, q2, q3, q4, q5, q6, q7⟩ := (h.later b1).c
  have c0 := (block_cell hn1 0).trans rfl
  have c1 := (block_cell hn1 3).trans rfl
  have B1 := Lib.hid b1
  have HI : Hid (isT e x = (decide (x.id = e.ref) && decide (x.tryN = e.tryN))) := rfl
  generalize isT e x = R at *
  unfold JobS.val'
  clear h b1 hn1
  by_cases h1 : x.id = e.ref
  · have g1 : (x.id == e.ref) = true := by simp [h1]
    have HI2 : Hid (R = decide (x.tryN = e.tryN)) := by show _ = _; rw [HI.out, decide_eq_true h1, Bool.true_and]
    clear h1
    go_enter Try.func66, Try.ntmps66
    go_wp2
    go_ret
    exact ⟨by rw [HI2.out]; rfl, B1.out⟩
  · have g1 : (x.id == e.ref) = false := by simp [h1]
    have HI2 : Hid (R = false) := by show _ = _; rw [HI.out, decide_eq_false h1, Bool.false_and]
    clear h1
    go_enter Try.func66, Try.ntmps66
    go_wp2
    go_ret
    exact ⟨by rw [HI2.out]; rfl, B1.out⟩
set_option maxHeartbeats 2000000 in
set_option maxRecDepth 100000 in
theorem indexJ_any {w : World} {v : Value} {l : List JobS} (h : ReadJ w v l) (hb : l.length ≤ 1000) (g : FuncId) (cb : Array Value) (eg : ∀ args w, (callFunc g args).run Try.prog w = .ok (.enter g args) w) (p : JobS → Bool)
    (HC : ∀ wx, Below w.heap.size w wx → ∀ x ∈ l, Calls Try.prog g (#[x.val'] ++ cb) wx fun e w' => e = .returned (.bool (p x)) ∧ Below wx.heap.size wx w') :
    Calls Try.prog 35 #[v, .func (.func g) #[] cb] w fun e w' => e = .returned (.int .i64 (idxL p l)) ∧ Below w.heap.size w w' := by
  obtain ⟨a, c, rfl⟩ := h.slice
  have H := Lib.hid h
  have HCC := Lib.hid HC
  obtain ⟨N, hN⟩ : ∃ N, l.length = N := ⟨_, rfl⟩
  have hNb : N ≤ 1000 := by omega
  have HN := Lib.hid hN
  rw [hN]
  clear h HC hb hN
  go_enter Try.func35, Try.ntmps35
  go_wp2
  go_loopw [8] (fun iv wr => ∃ i : Nat, i ≤ N ∧ iv = .int .i64 (i : Int) ∧ Hid ((∀ x ∈ l.take i, p x = false) ∧ Below w.heap.size w wr)) (fun iv _ => N - (intOf iv).toNat)
  case atStart => exact ⟨0, Nat.zero_le _, rfl, fun x hx => by simp at hx, Below.refl _ _⟩
  case round =>
    obtain ⟨i, hi, rfl, HR⟩ := hrel
    by_cases hlt : i < N
    · have hlt2 : (i : Int) < (N : Int) := by omega
      have hil : i < l.length := by rw [HN.out]; exact hlt
      obtain ⟨b, o, rfl, q0, q1, q2, q3⟩ := (H.out.below HR.out.2).job hil
      have hcall := HCC.out _ HR.out.2 l[i] (List.getElem_mem hil)
      have HHIT := Lib.hid (idx_hit hil HR.out.1)
      have HNX := Lib.hid (none_next hil HR.out.1)
      have hmes : N - (intOf (.int .i64 ((i : Int) + 1))).toNat < N - (intOf (.int .i64 (i : Int))).toNat := by simp [intOf]; omega
      generalize l[i] = x at *
      unfold JobS.val' at hcall
      cases hp : p x with
      | true =>
        rw [hp] at hcall
        have HH := Lib.hid (HHIT.out hp)
        have HCL := Lib.hid hcall
        clear hp hcall hil
        go_wp2_with fail
        refine HCL.out.mono ?_
        rintro e w1 ⟨rfl, b1⟩
        have B1 := Lib.hid (HR.out.2.trans (b1.mono HR.out.2.size))
        clear b1
        go_wp2
        go_ret
        exact ⟨by unfold idxL; rw [HH.out]; rfl, B1.out⟩
      | false =>
        rw [hp] at hcall
        have HH := Lib.hid (HNX.out hp)
        have HCL := Lib.hid hcall
        clear hp hcall hil
        go_wp2_with fail
        refine HCL.out.mono ?_
        rintro e w1 ⟨rfl, b1⟩
        have B1 := Lib.hid (HR.out.2.trans (b1.mono HR.out.2.size))
        clear b1
        go_wp2
        go_roundw
        case rel => exact ⟨i + 1, by omega, by go_num, HH.out, B1.out⟩
        case measure => exact hmes
    · obtain rfl : i = N := by omega
      have hlt2 : ¬ (i : Int) < (i : Int) := by omega
      have HNO : Hid (l.findIdx? p = none) := by
        show _ = _
        rw [List.findIdx?_eq_none_iff]
        have := HR.out.1
        rw [List.take_of_length_le (by rw [HN.out]; exact Nat.le_refl _)] at this
        exact this
      go_wp2
      go_ret
      exact ⟨by unfold idxL; rw [HNO.out]; rfl, HR.out.2⟩
set_option maxHeartbeats 1000000 in
theorem hasJ_any {w : World} {v : Value} {l : List JobS} (h : ReadJ w v l) (hb : l.length ≤ 1000) (g : FuncId) (cb : Array Value) (eg : ∀ args w, (callFunc g args).run Try.prog w = .ok (.enter g args) w) (p : JobS → Bool)
    (HC : ∀ wx, Below w.heap.size w wx → ∀ x ∈ l, Calls Try.prog g (#[x.val'] ++ cb) wx fun e w' => e = .returned (.bool (p x)) ∧ Below wx.heap.size wx w') :
    Calls Try.prog 56 #[v, .func (.func g) #[] cb] w fun e w' => e = .returned (.bool (l.any p)) ∧ Below w.heap.size w w' := by
  have HX := Lib.hid (indexJ_any h hb g cb eg p HC)
  have HA := Lib.hid (idx_any p l)
  generalize l.any p = R at *
  generalize idxL p l = I at *
  clear h HC
  go_enter Try.func56, Try.ntmps56
  go_wp2_with fail
  refine HX.out.mono ?_
  rintro e w1 ⟨rfl, b1⟩
  have B1 := Lib.hid b1
  clear b1
  go_wp2
  go_ret
  exact ⟨by rw [← HA.out]; rfl, B1.out⟩

set_option maxHeartbeats 1000000 in
set_option maxRecDepth 100000 in
theorem firedBy_any (e : EvS) (w : World) :
    Calls Try.prog 38 #[e.val'] w fun x w' => x = .returned (.func (.func 68) #[] #[.pointer (some ⟨w.heap.size, 0, none⟩)]) ∧ EvBox w' w.heap.size e ∧ Below w.heap.size w w' := by
  obtain ⟨w1, hw1, b1, X1, hs1⟩ := evBoxed w e
  have B1 := Lib.hid b1
  have HX := Lib.hid X1
  unfold EvS.val'
  clear b1 X1 hs1
  go_enter Try.func38, Try.ntmps38
  go_wp2
  go_ret
  exact ⟨rfl, HX.out, B1.out⟩
set_option maxHeartbeats 1000000 in
set_option maxRecDepth 100000 in
theorem firedBy1_any {w : World} {b : Nat} {e : EvS} (h : EvBox w b e) (x : ClkS) :
    Calls Try.prog 68 #[x.val', .pointer (some ⟨b, 0, none⟩)] w fun r w' => r = .returned (.bool (isF e x)) ∧ Below w.heap.size w w' := by
  obtain ⟨w1, hw1⟩ : ∃ w1, w.alloc (.cells #[.int .i64 x.id, .int .i64 x.step, .int .i64 x.tick] 51) = w1 := ⟨_, rfl⟩
  have b1 : Below w.heap.size w w1 := by rw [← hw1]; exact (Below.refl _ w).alloc (Nat.le_refl _) _
  have hn1 : w1.heap[w.heap.size]? = some (.cells #[.int .i64 x.id, .int .i64 x.step, .int .i64 x.tick] 51 (0, 0)) := by rw [← hw1]; exact heap_alloc_new _ _
  obtain ⟨q0, q1, q2, q3, q4, q5, q6, q7⟩ := (h.later b1).c
  have c0 := (block_cell hn1 0).trans rfl
  have c1 := (block_cell hn1 2).trans rfl
  have B1 := Lib.hid b1
  have HI : Hid (isF e x = (decide (x.id = e.ref) && decide (x.tick ≤ e.tick))) := rfl
  generalize isF e x = R at *
  unfold ClkS.val'
  clear h b1 hn1
  by_cases h1 : x.id = e.ref
  · have g1 : (x.id == e.ref) = true := by simp [h1]
    have HI2 : Hid (R = decide (x.tick ≤ e.tick)) := by show _ = _; rw [HI.out, decide_eq_true h1, Bool.true_and]
    clear h1
    go_enter Try.func68, Try.ntmps68
    go_wp2
    go_ret
    exact ⟨by rw [HI2.out]; rfl, B1.out⟩
  · have g1 : (x.id == e.ref) = false := by simp [h1]
    have HI2 : Hid (R = false) := by show _ = _; rw [HI.out, decide_eq_false h1, Bool.false_and]
    clear h1
    go_enter Try.func68, Try.ntmps68
    go_wp2
    go_ret
    exact ⟨by rw [HI2.out]; rfl, B1.out⟩
set_option maxHeartbeats 2000000 in
set_option maxRecDepth 100000 in
theorem indexC_any {w : World} {v : Value} {l : List ClkS} (h : ReadC w v l) (hb : l.length ≤ 1000) (g : FuncId) (cb : Array Value) (eg : ∀ args w, (callFunc g args).run Try.prog w = .ok (.enter g args) w) (p : ClkS → Bool)
    (HC : ∀ wx, Below w.heap.size w wx → ∀ x ∈ l, Calls Try.prog g (#[x.val'] ++ cb) wx fun e w' => e = .returned (.bool (p x)) ∧ Below wx.heap.size wx w') :
    Calls Try.prog 67 #[v, .func (.func g) #[] cb] w fun e w' => e = .returned (.int .i64 (idxL p l)) ∧ Below w.heap.size w w' := by
  obtain ⟨a, c, rfl⟩ := h.slice
  have H := Lib.hid h
  have HCC := Lib.hid HC
  obtain ⟨N, hN⟩ : ∃ N, l.length = N := ⟨_, rfl⟩
  have hNb : N ≤ 1000 := by omega
  have HN := Lib.hid hN
  rw [hN]
  clear h HC hb hN
  go_enter Try.func67, Try.ntmps67
  go_wp2
  go_loopw [8] (fun iv wr => ∃ i : Nat, i ≤ N ∧ iv = .int .i64 (i : Int) ∧ Hid ((∀ x ∈ l.take i, p x = false) ∧ Below w.heap.size w wr)) (fun iv _ => N - (intOf iv).toNat)
  case atStart => exact ⟨0, Nat.zero_le _, rfl, fun x hx => by simp at hx, Below.refl _ _⟩
  case round =>
    obtain ⟨i, hi, rfl, HR⟩ := hrel
    by_cases hlt : i < N
    · have hlt2 : (i : Int) < (N : Int) := by omega
      have hil : i < l.length := by rw [HN.out]; exact hlt
      obtain ⟨b, o, rfl, q0, q1, q2⟩ := (H.out.below HR.out.2).clk hil
      have hcall := HCC.out _ HR.out.2 l[i] (List.getElem_mem hil)
      have HHIT := Lib.hid (idx_hit hil HR.out.1)
      have HNX := Lib.hid (none_next hil HR.out.1)
      have hmes : N - (intOf (.int .i64 ((i : Int) + 1))).toNat < N - (intOf (.int .i64 (i : Int))).toNat := by simp [intOf]; omega
      generalize l[i] = x at *
      unfold ClkS.val' at hcall
      cases hp : p x with
      | true =>
        rw [hp] at hcall
        have HH := Lib.hid (HHIT.out hp)
        have HCL := Lib.hid hcall
        clear hp hcall hil
        go_wp2_with fail
        refine HCL.out.mono ?_
        rintro e w1 ⟨rfl, b1⟩
        have B1 := Lib.hid (HR.out.2.trans (b1.mono HR.out.2.size))
        clear b1
        go_wp2
        go_ret
        exact ⟨by unfold idxL; rw [HH.out]; rfl, B1.out⟩
      | false =>
        rw [hp] at hcall
        have HH := Lib.hid (HNX.out hp)
        have HCL := Lib.hid hcall
        clear hp hcall hil
        go_wp2_with fail
        refine HCL.out.mono ?_
        rintro e w1 ⟨rfl, b1⟩
        have B1 := Lib.hid (HR.out.2.trans (b1.mono HR.out.2.size))
        clear b1
        go_wp2
        go_roundw
        case rel => exact ⟨i + 1, by omega, by go_num, HH.out, B1.out⟩
        case measure => exact hmes
    · obtain rfl : i = N := by omega
      have hlt2 : ¬ (i : Int) < (i : Int) := by omega
      have HNO : Hid (l.findIdx? p = none) := by
        show _ = _
        rw [List.findIdx?_eq_none_iff]
        have := HR.out.1
        rw [List.take_of_length_le (by rw [HN.out]; exact Nat.le_refl _)] at this
        exact this
      go_wp2
      go_ret
      exact ⟨by unfold idxL; rw [HNO.out]; rfl, HR.out.2⟩
set_option maxHeartbeats 1000000 in
theorem hasC_any {w : World} {v : Value} {l : List ClkS} (h : ReadC w v l) (hb : l.length ≤ 1000) (g : FuncId) (cb : Array Value) (eg : ∀ args w, (callFunc g args).run Try.prog w = .ok (.enter g args) w) (p : ClkS → Bool)
    (HC : ∀ wx, Below w.heap.size w wx → ∀ x ∈ l, Calls Try.prog g (#[x.val'] ++ cb) wx fun e w' => e = .returned (.bool (p x)) ∧ Below wx.heap.size wx w') :
    Calls Try.prog 60 #[v, .func (.func g) #[] cb] w fun e w' => e = .returned (.bool (l.any p)) ∧ Below w.heap.size w w' := by
  have HX := Lib.hid (indexC_any h hb g cb eg p HC)
  have HA := Lib.hid (idx_any p l)
  generalize l.any p = R at *
  generalize idxL p l = I at *
  clear h HC
  go_enter Try.func60, Try.ntmps60
  go_wp2_with fail
  refine HX.out.mono ?_
  rintro e w1 ⟨rfl, b1⟩
  have B1 := Lib.hid b1
  clear b1
  go_wp2
  go_ret
  exact ⟨by rw [← HA.out]; rfl, B1.out⟩
end Go.Proofs.Ytlkfpeefjpmmfaa

namespace Go.Proofs.Ytlkfpeefjpmmfaa
open Go.RowKit
set_option linter.unusedVariables false

structure BW (w : World) where
  w' : World
  below : Below w.heap.size w w'
instance (w : World) : Nonempty (BW w) := ⟨⟨w, Below.refl _ _⟩⟩
theorem region_class {P : Program} {id : Nat} {Q : Exit → Act → World → Prop} {a : Act} {w : World} (y : BW w) {wx : World} {l : List Oper} (hx : wx = y.w') (hm : P.follows .mixedOrders = true) (hB : Region.lexB .any l.toArray = true)
    (h : wpQuiet P l.toArray (fun w' => ∃ y : BW w, w' = y.w') (fun a' => ∀ w', (∃ y : BW w, w' = y.w') → Q .normal a' w') l a) : (Code.region id l.toArray true).wp P Q a wx :=
  wp_region_quiet (C := fun w' => ∃ y : BW w, w' = y.w') hm hB ⟨⟨_, (hx ▸ y.below).drew⟩, rfl⟩ (by simpa using h)
theorem class_call {P : Program} {f : FuncId} {args : Array Value} {w : World} {y : BW w} {v : Value} (h : Calls P f args y.w' fun e w'' => e = .returned v ∧ Below y.w'.heap.size y.w' w'') : Calls P f args y.w' fun e w'' => e = .returned v ∧ ∃ z : BW w, w'' = z.w' :=
  h.mono fun e w'' ⟨he, hb⟩ => ⟨he, ⟨w'', y.below.trans (hb.mono y.below.size)⟩, rfl⟩
end Go.Proofs.Ytlkfpeefjpmmfaa

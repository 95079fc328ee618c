/- Layer 14: the contract of the reference's Build. -/
import Derived.Test.YtlkfpeefjpmmfaaJ43
import Derived.Test.YtlkfpeefjpmmfaaJ23
namespace Go.Proofs.Ytlkfpeefjpmmfaa
open Go.RowKit
set_option linter.unusedVariables false

/-- How Build ends. -/
def BldEnd (l : List EvS) (S : StS) (i E : Nat) : Prop :=
  (OkH l ∧ S = stateH l ∧ i = 0 ∧ E = 0) ∨ ∃ h : i < l.length, OkH (l.take i) ∧ errS (stateH (l.take i)) l[i] = E ∧ E ≠ 0 ∧ S = StS.zero
theorem OkH.part {l : List EvS} (h : OkH l) : ∀ i, OkH (l.take i) ∧ ∀ hi : i < l.length, errS (stateH (l.take i)) l[i] = 0 := by
  induction h with
  | nil => intro i; rw [List.take_nil]; exact ⟨.nil, fun hi => by simp at hi⟩
  | @snoc l e h0 he ih =>
    intro i
    by_cases hlt : i < l.length
    · rw [List.take_append_of_le_length (Nat.le_of_lt hlt)]
      refine ⟨(ih i).1, fun hi => ?_⟩
      rw [List.getElem_append_left hlt]
      exact (ih i).2 hlt
    · by_cases hie : i = l.length
      · subst hie
        rw [List.take_left']
        · refine ⟨h0, fun hi => ?_⟩
          rw [List.getElem_append_right (Nat.le_refl _)]
          simpa using he
        · rfl
      · rw [List.take_of_length_le (by rw [List.length_append, List.length_singleton]; omega)]
        refine ⟨.snoc h0 he, fun hi => ?_⟩
        rw [List.length_append, List.length_singleton] at hi
        omega
theorem OkH.next {l : List EvS} {i : Nat} (h : OkH (l.take i)) (hi : i < l.length) (he : errS (stateH (l.take i)) l[i] = 0) : OkH (l.take (i + 1)) := by
  rw [List.take_succ_eq_append_getElem hi]
  exact .snoc h he
theorem bld_one {l : List EvS} {S T : StS} {i j E F : Nat} (h : BldEnd l S i E) (k : BldEnd l T j F) : T = S ∧ j = i ∧ F = E := by
  rcases h with ⟨h1, h2, h3, h4⟩ | ⟨hi, h1, h2, h3, h4⟩
  · rcases k with ⟨k1, k2, k3, k4⟩ | ⟨hj, k1, k2, k3, k4⟩
    · exact ⟨k2.trans h2.symm, k3.trans h3.symm, k4.trans h4.symm⟩
    · exact (k3 (k2 ▸ (h1.part j).2 hj)).elim
  · rcases k with ⟨k1, k2, k3, k4⟩ | ⟨hj, k1, k2, k3, k4⟩
    · exact (h3 (h2 ▸ (k1.part i).2 hi)).elim
    · have hij : i = j := by
        rcases Nat.lt_trichotomy i j with h | h | h
        · exfalso
          have := (k1.part i).2 (by rw [List.length_take]; omega)
          rw [List.take_take, Nat.min_eq_left (Nat.le_of_lt h), List.getElem_take] at this
          exact h3 (h2 ▸ this)
        · exact h
        · exfalso
          have := (h1.part j).2 (by rw [List.length_take]; omega)
          rw [List.take_take, Nat.min_eq_left (Nat.le_of_lt h), List.getElem_take] at this
          exact k3 (k2 ▸ this)
      subst hij
      exact ⟨k4.trans h4.symm, rfl, k2.symm.trans h2⟩
theorem ReadE.take {w : World} {a : Option Addr} {n c : Nat} {l : List EvS} (h : ReadE w (.slice a n c) l) {i : Nat} (hi : i ≤ l.length) : ReadE w (.slice a i c) (l.take i) := by
  obtain ⟨h1, h2, a', c', hv, h3⟩ := h
  injection hv with e1 e2 e3
  subst e1 e2 e3
  have hl : (l.take i).length = i := by rw [List.length_take]; omega
  refine ⟨by omega, fun x hx => h2 x (List.mem_of_mem_take hx), a, c, by rw [hl], ?_⟩
  rcases h3 with h3 | ⟨b, o, rfl, h3⟩
  · exact .inl (by rw [h3, List.take_nil])
  · refine .inr ⟨b, o, rfl, fun k hk j u hu => ?_⟩
    rw [hl] at hk
    rw [List.getElem_take] at hu
    exact h3 k (by omega) j u hu
theorem results_cell3 {fn : Func} {p u v : Tmp} {ty : TypeId} (h : fn.results = #[.cell p ty, .tmp u, .tmp v]) (tmps : Array Value) (P : Program) (w : World) :
    (results fn tmps).run P w =
      ((asAddr (tmps.getD p undef)).run P w).andThen fun a w₁ => ((loadVar ty a).run P w₁).andThen fun x w₂ => .ok (.tuple #[x, tmps.getD u undef, tmps.getD v undef]) w₂ := by
  simp only [results, h]
  simp [Sem.run_bind, Result.andThen]

set_option maxHeartbeats 4000000 in
set_option maxRecDepth 100000 in
theorem rbuild_any {w : World} {a : Option Addr} {c : Nat} {l : List EvS} (h : ReadE w (.slice a l.length c) l) (hc : l.length ≤ c) (hz : ∀ x ∈ l, x.data.size ≤ 140737488351232) :
    Calls Try.prog 10 #[.slice a l.length c] w fun x w' => ∃ g j k S i E, x = .returned (.tuple #[S.val' g j k, .int .i64 (i : Nat), .int .i64 (E : Nat)]) ∧ ReadSt w' g j k S ∧ BldEnd l S i E ∧ Below w.heap.size w w' := by
  obtain ⟨w1, hw1⟩ : ∃ w1, w.alloc (.cells zeroSt 30) = w1 := ⟨_, rfl⟩
  have hb1 : Below w.heap.size w w1 := by rw [← hw1]; exact (Below.refl _ w).alloc (Nat.le_refl _) _
  have hn1 : w1.heap[w.heap.size]? = some (.cells zeroSt 30 (0, 0)) := by rw [← hw1]; exact heap_alloc_new _ _
  have hs1 : w1.heap.size = w.heap.size + 1 := by rw [← hw1]; simp
  unfold zeroSt at hw1
  have hml : l.length ≤ 9223372036854775807 := by have := h.1; unfold maxLen at this; omega
  have HCO : Hid (∀ wx i, i ≤ l.length → OkH (l.take i) → ∀ e : EvS, e.data.size ≤ 140737488351232 → Below w.heap.size w wx → Calls Try.prog 13 #[.slice a i c, e.val'] wx fun x w' => x = .returned (.int .i64 (errS (stateH (l.take i)) e : Nat)) ∧ Below wx.heap.size wx w') := fun wx i hi ho e he t => rcomes_any ((h.take hi).below t) ho e he
  have HSO : Hid (∀ wx, OkH l → Below w.heap.size w wx → Calls Try.prog 14 #[.slice a l.length c] wx fun x w' => ∃ g j k, x = .returned ((stateH l).val' g j k) ∧ ReadSt w' g j k (stateH l) ∧ ((∀ q, j.ownBlock = some q → wx.heap.size ≤ q) ∧ ∀ q, k.ownBlock = some q → wx.heap.size ≤ q) ∧ Below wx.heap.size wx w') := fun wx ho t => rstate_any (h.below t) ho
  have H := Lib.hid h
  have HZ := Lib.hid hz
  have HB1 : Hid (Below w.heap.size w w1 ∧ w1.heap[w.heap.size]? = some (.cells zeroSt 30 (0, 0)) ∧ w1.heap.size = w.heap.size + 1) := ⟨hb1, hn1, hs1⟩
  clear h hb1 hn1 hs1 hz
  go_enter Try.func10, Try.ntmps10
  go_wp2
  go_loopw [5] (fun iv wr => ∃ i : Nat, i ≤ l.length ∧ iv = .int .i64 (i : Int) ∧ Hid (OkH (l.take i)) ∧ Hid (Below w1.heap.size w1 wr)) (fun iv _ => l.length - (intOf iv).toNat)
  case atStart => exact ⟨0, Nat.zero_le _, rfl, OkH.nil, Below.refl _ _⟩
  case round =>
    obtain ⟨i, hi, rfl, HA, HW⟩ := hrel
    have HWW : Hid (∀ wx, Below w1.heap.size w1 wx → Below w.heap.size w wx) := fun wx t => HB1.out.1.trans (t.mono HB1.out.1.size)
    have HRC : Hid (∀ wx, Below w1.heap.size w1 wx → wx.heap[w.heap.size]? = some (.cells zeroSt 30 (0, 0))) := fun wx t => (t.block _ (by have := HB1.out.2.2; omega)).trans HB1.out.2.1
    by_cases hlt : i < l.length
    · have hi1 : (0 : Int) ≤ (i : Int) := Int.natCast_nonneg _
      have hi2 : (i : Int) < (l.length : Int) := by omega
      have hi3 : (i : Int) ≤ (c : Int) := by omega
      have hi4 : (i : Int) ≤ (l.length : Int) := by omega
      have hmes : l.length - (intOf (.int .i64 ((i : Int) + 1))).toNat < l.length - (intOf (.int .i64 (i : Int))).toNat := by simp [intOf]; omega
      obtain ⟨b, o, rfl, -⟩ := H.out.at hlt
      have HEC : Hid (∀ y : BW wr, Below w.heap.size w y.w') := fun y => HWW.out _ (HW.out.trans (y.below.mono HW.out.size))
      have hcs := fun y : BW wr => (H.out.below (HEC.out y)).at hlt
      have HX := Lib.hid (HZ.out l[i] (List.getElem_mem hlt))
      have HNX := Lib.hid (fun he => HA.out.next hlt he)
      have HBE : Hid (errS (stateH (l.take i)) l[i] ≠ 0 → BldEnd l StS.zero i (errS (stateH (l.take i)) l[i])) := fun h => .inr ⟨hlt, HA.out, rfl, h, rfl⟩
      generalize l[i] = x at *
      have u : ∀ y : BW wr, y.w'.cell? ⟨b, o + i * 8, none⟩ = some (.int .i64 x.id) ∧ y.w'.cell? ⟨b, o + i * 8 + 1, none⟩ = some (.int .i64 x.kind) ∧ y.w'.cell? ⟨b, o + i * 8 + 2, none⟩ = some (.int .i64 x.tick) ∧ y.w'.cell? ⟨b, o + i * 8 + 3, none⟩ = some (.int .i64 x.ref) ∧ y.w'.cell? ⟨b, o + i * 8 + 4, none⟩ = some (.int .i64 x.step) ∧ y.w'.cell? ⟨b, o + i * 8 + 5, none⟩ = some (.int .i64 x.tryN) ∧ y.w'.cell? ⟨b, o + i * 8 + 6, none⟩ = some (.bool x.undo) ∧ y.w'.cell? ⟨b, o + i * 8 + 7, none⟩ = some (.string x.data) := fun y => by
        obtain ⟨b2, o2, hb2, p0, p1, p2, p3, p4, p5, p6, p7, -⟩ := hcs y
        injection hb2 with hb2
        injection hb2 with e1 e2
        subst e1 e2
        exact ⟨p0, p1, p2, p3, p4, p5, p6, p7⟩
      have u0 := fun y => (u y).1
      have u1 := fun y => (u y).2.1
      have u2 := fun y => (u y).2.2.1
      have u3 := fun y => (u y).2.2.2.1
      have u4 := fun y => (u y).2.2.2.2.1
      have u5 := fun y => (u y).2.2.2.2.2.1
      have u6 := fun y => (u y).2.2.2.2.2.2.1
      have u7 := fun y => (u y).2.2.2.2.2.2.2
      have HCC := Lib.hid (fun y : BW wr => HCO.out y.w' i hi HA.out x HX.out (HEC.out y))
      obtain ⟨ER, hER⟩ : ∃ ER, errS (stateH (l.take i)) x = ER := ⟨_, rfl⟩
      rw [hER] at HCC HNX HBE
      unfold EvS.val' at HCC
      clear u hcs hER
      go_upto_region 4 with (fail)
      refine region_class (w := wr) ⟨wr, Below.refl _ _⟩ rfl (by kernel_rfl) (by kernel_rfl) ?_
      repeat (go_big_quiet_step ((go_at_call 13; exact class_call (HCC.out _))))
      refine wpQuiet_nil ?_
      rintro _ ⟨y, rfl⟩
      have HY := Lib.hid (HW.out.trans (y.below.mono HW.out.size))
      generalize y.w' = wq at *
      clear u0 u1 u2 u3 u4 u5 u6 u7
      by_cases h0 : ER = 0
      · subst h0
        have HN := Lib.hid (HNX.out rfl)
        go_wp2
        go_roundw
        case rel => exact ⟨i + 1, by omega, by go_num, HN.out, HY.out⟩
        case measure => exact hmes
      · have g0 : ((ER : Int) != 0) = true := by rw [bne_iff_ne]; omega
        have HE := Lib.hid (HBE.out h0)
        have hn7 : wq.heap[w.heap.size]? = some (.cells #[.slice none 0 0, .int .i64 0, .int .i64 0, .int .i64 0, .int .i64 0, .int .i64 0, .int .i64 0, .bool false, .slice none 0 0, .slice none 0 0, .bool false, .bool false] 30 (0, 0)) := HRC.out _ HY.out
        have q0 := (block_cell hn7 0).trans rfl
        have q1 := (block_cell hn7 1).trans rfl
        have q2 := (block_cell hn7 2).trans rfl
        have q3 := (block_cell hn7 3).trans rfl
        have q4 := (block_cell hn7 4).trans rfl
        have q5 := (block_cell hn7 5).trans rfl
        have q6 := (block_cell hn7 6).trans rfl
        have q7 := (block_cell hn7 7).trans rfl
        have q8 := (block_cell hn7 8).trans rfl
        have q9 := (block_cell hn7 9).trans rfl
        have q10 := (block_cell hn7 10).trans rfl
        have q11 := (block_cell hn7 11).trans rfl
        have f0 := block_free hn7 0
        have f1 := block_free hn7 1
        have f2 := block_free hn7 2
        have f3 := block_free hn7 3
        have f4 := block_free hn7 4
        have f5 := block_free hn7 5
        have f6 := block_free hn7 6
        have f7 := block_free hn7 7
        have f8 := block_free hn7 8
        have f9 := block_free hn7 9
        have f10 := block_free hn7 10
        have f11 := block_free hn7 11
        clear h0 hn7
        go_wp2
        (try simp only [Exit.inBlock, Exit.then])
        refine bodyPost_ret (v := .tuple #[.agg #[.slice none 0 0, .int .i64 0, .int .i64 0, .int .i64 0, .int .i64 0, .int .i64 0, .int .i64 0, .bool false, .slice none 0 0, .slice none 0 0, .bool false, .bool false], .int .i64 (i : Int), .int .i64 (ER : Int)]) ?_ rfl ⟨.slice none 0 0, .slice none 0 0, .slice none 0 0, StS.zero, i, ER, rfl, ReadSt.zero _, HE.out, (setSt wq w.heap.size _ _ _ _ _ _ _ _ _ _ _ _).2 _ _ (HWW.out _ HY.out) (Nat.le_refl _)⟩
        rw [results_cell3 rfl]
        go_simp
    · obtain rfl : i = l.length := by omega
      have HOK : Hid (OkH l) := by have := HA.out; rwa [List.take_length] at this
      have hll : ¬ (l.length : Int) < (l.length : Int) := by omega
      have HSC := Lib.hid (HSO.out wr HOK.out (HWW.out _ HW.out))
      have HSZ : Hid (w.heap.size < wr.heap.size) := by have := HB1.out.2.2; have := HW.out.size; show _ < _; omega
      go_wp2_with fail
      refine HSC.out.mono ?_
      rintro x w5 ⟨g, j, k, rfl, r5, hown, b5⟩
      have B5 := Lib.hid (HW.out.trans (b5.mono HW.out.size))
      obtain ⟨ga, gc, rfl⟩ := r5.g.slice
      obtain ⟨ja, jc, rfl⟩ := r5.j.slice
      obtain ⟨ka, kc, rfl⟩ := r5.c.slice
      have R5 := Lib.hid r5
      have HO := Lib.hid hown
      have hn7 : w5.heap[w.heap.size]? = some (.cells #[.slice none 0 0, .int .i64 0, .int .i64 0, .int .i64 0, .int .i64 0, .int .i64 0, .int .i64 0, .bool false, .slice none 0 0, .slice none 0 0, .bool false, .bool false] 30 (0, 0)) := HRC.out _ B5.out
      have q0 := (block_cell hn7 0).trans rfl
      have q1 := (block_cell hn7 1).trans rfl
      have q2 := (block_cell hn7 2).trans rfl
      have q3 := (block_cell hn7 3).trans rfl
      have q4 := (block_cell hn7 4).trans rfl
      have q5 := (block_cell hn7 5).trans rfl
      have q6 := (block_cell hn7 6).trans rfl
      have q7 := (block_cell hn7 7).trans rfl
      have q8 := (block_cell hn7 8).trans rfl
      have q9 := (block_cell hn7 9).trans rfl
      have q10 := (block_cell hn7 10).trans rfl
      have q11 := (block_cell hn7 11).trans rfl
      have f0 := block_free hn7 0
      have f1 := block_free hn7 1
      have f2 := block_free hn7 2
      have f3 := block_free hn7 3
      have f4 := block_free hn7 4
      have f5 := block_free hn7 5
      have f6 := block_free hn7 6
      have f7 := block_free hn7 7
      have f8 := block_free hn7 8
      have f9 := block_free hn7 9
      have f10 := block_free hn7 10
      have f11 := block_free hn7 11
      have N7 : Hid (w5.heap[w.heap.size]? = some (.cells zeroSt 30 (0, 0))) := hn7
      clear hn7 r5 hown b5
      generalize hSS : stateH l = SS at *
      have HBD : Hid (BldEnd l SS 0 0) := .inl ⟨HOK.out, hSS.symm, rfl, rfl⟩
      clear hSS
      unfold StS.val'
      go_wp2
      (try simp only [Exit.inBlock, Exit.then])
      refine bodyPost_ret (v := .tuple #[.agg #[.slice ga SS.prog.steps.length gc, .int .i64 SS.prog.limit, .int .i64 SS.status, .int .i64 SS.next, .int .i64 SS.began, .int .i64 SS.asked, .int .i64 SS.taken, .bool SS.fresh, .slice ja SS.jobs.length jc, .slice ka SS.clocks.length kc, .bool SS.cancel, .bool SS.overdue], .int .i64 0, .int .i64 0]) ?_ rfl ⟨.slice ga SS.prog.steps.length gc, .slice ja SS.jobs.length jc, .slice ka SS.clocks.length kc, SS, 0, 0, rfl, ?_, HBD.out, (setSt w5 w.heap.size _ _ _ _ _ _ _ _ _ _ _ _).2 _ _ (HWW.out _ B5.out) (Nat.le_refl _)⟩
      · rw [results_cell3 rfl]
        go_simp
      · exact ⟨R5.out.g.far (setSt w5 w.heap.size _ _ _ _ _ _ _ _ _ _ _ _).1 N7.out zeroSt_text, R5.out.j.far (fun q hq => by have := HO.out.1 q hq; have := HSZ.out; omega) (setSt w5 w.heap.size _ _ _ _ _ _ _ _ _ _ _ _).1, R5.out.c.far (fun q hq => by have := HO.out.2 q hq; have := HSZ.out; omega) (setSt w5 w.heap.size _ _ _ _ _ _ _ _ _ _ _ _).1⟩
end Go.Proofs.Ytlkfpeefjpmmfaa

/- Layer 14's laws, whatever the program: the walk of StateKeeps. -/
import Derived.Test.YtlkfpeefjpmmfaaK14d
namespace Go.Proofs.Ytlkfpeefjpmmfaa
open Go.RowKit
set_option linter.unusedVariables false

theorem cell_kept {w : World} {p : Addr} {u : Value} (h : w.cell? p = some u) (q : Addr) (v : Value) : ∃ u', (w.setCell q v).cell? p = some u' := by
  by_cases e : q = p
  · subst e; exact ⟨v, World.cell?_setCell_same _ _ _ h⟩
  · exact ⟨u, (World.cell?_setCell_other w q p v e).trans h⟩
/-- A cell that can be written. -/
def Wr (w : World) (p : Addr) : Prop := (∃ u, w.cell? p = some u) ∧ w.frozen? p = false
theorem Wr.set {w : World} {p : Addr} (h : Wr w p) (q : Addr) (v : Value) : Wr (w.setCell q v) p := by
  obtain ⟨⟨u, hu⟩, hf⟩ := h
  exact ⟨cell_kept hu q v, (World.frozen?_setCell _ _ _ _).trans hf⟩
theorem ReadR.agree {α : Type} {f : α → List Value} {sz : Nat} {w w' : World} {v : Value} {l : List α} (h : ReadR f sz w v l) (ho : ∀ k, v.ownBlock = some k → w'.heap[k]? = w.heap[k]?) : ReadR f sz w' v l := by
  obtain ⟨h1, a, c, rfl, h3⟩ := h
  refine ⟨h1, a, c, rfl, ?_⟩
  rcases h3 with h3 | ⟨b, o, rfl, h3⟩
  · exact .inl h3
  · exact .inr ⟨b, o, rfl, fun i hi j u hu => (World.cell?_of_block (w := w) (ho b rfl)).trans (h3 i hi j u hu)⟩
theorem ReadG.agree {w w' : World} {v : Value} {l : List StepS} (h : ReadG w v l) (ho : ∀ k, v.ownBlock = some k → w'.heap[k]? = w.heap[k]?) : ReadG w' v l := by
  obtain ⟨h1, h2, a, c, rfl, h3⟩ := h
  refine ⟨h1, h2, a, c, rfl, ?_⟩
  rcases h3 with h3 | ⟨b, o, rfl, h3⟩
  · exact .inl h3
  · exact .inr ⟨b, o, rfl, fun i hi j u hu => (World.cell?_of_block (w := w) (ho b rfl)).trans (h3 i hi j u hu)⟩
/-- The j-th cells of a row's elements can be written. -/
def WrRow (w : World) (sz j n : Nat) (v : Value) : Prop := ∃ a c, v = .slice a n c ∧ ∀ i, i < n → ∃ b o, a = some ⟨b, o, none⟩ ∧ Wr w ⟨b, o + i * sz + j, none⟩
theorem WrRow.set {w : World} {sz j n : Nat} {v : Value} (h : WrRow w sz j n v) (q : Addr) (u : Value) : WrRow (w.setCell q u) sz j n v := by
  obtain ⟨a, c, rfl, h⟩ := h
  refine ⟨a, c, rfl, fun i hi => ?_⟩
  obtain ⟨b, o, e, h⟩ := h i hi
  exact ⟨b, o, e, h.set q u⟩
theorem WrRow.agree {w w' : World} {sz j n : Nat} {v : Value} (h : WrRow w sz j n v) (ho : ∀ k, v.ownBlock = some k → w'.heap[k]? = w.heap[k]?) : WrRow w' sz j n v := by
  obtain ⟨a, c, rfl, h⟩ := h
  refine ⟨a, c, rfl, fun i hi => ?_⟩
  obtain ⟨b, o, rfl, ⟨u, hu⟩, hf⟩ := h i hi
  exact ⟨b, o, rfl, ⟨u, (World.cell?_of_block (w := w) (ho b rfl)).trans hu⟩, (World.frozen?_of_block (w := w) (ho b rfl)).trans hf⟩
theorem OwnR.wr {α : Type} {f : α → List Value} {sz base : Nat} (hf : ∀ x, (f x).length = sz) {w : World} {v : Value} {l : List α} (h : OwnR f sz base w v l) {j : Nat} (hj : j < sz) : WrRow w sz j l.length v := by
  obtain ⟨⟨h1, a, c, rfl, h3⟩, _, h4⟩ := h
  refine ⟨a, c, rfl, fun i hi => ?_⟩
  rcases h3 with h3 | ⟨b, o, rfl, h3⟩
  · subst h3; simp at hi
  · refine ⟨b, o, rfl, ⟨_, h3 i hi j _ (List.getElem?_eq_getElem (by rw [hf]; exact hj))⟩, ?_⟩
    have h5 := h4 b o _ _ rfl (i * sz + j) (by
      have h6 : (i + 1) * sz ≤ l.length * sz := Nat.mul_le_mul_right _ hi
      rw [Nat.add_mul] at h6
      omega)
    rw [← Nat.add_assoc] at h5
    exact h5
theorem StepS.len (x : StepS) : x.cells.length = 6 := rfl
/-- What may be while the first answer is overwritten: only blocks from lo on and below hi turn. -/
structure Over (lo hi : Nat) (w wr : World) : Prop where
  below : Below lo w wr
  above : ∀ k, hi ≤ k → k < w.heap.size → wr.heap[k]? = w.heap[k]?
theorem Over.refl (lo hi : Nat) (w : World) : Over lo hi w w := ⟨Below.refl _ _, fun _ _ _ => rfl⟩
theorem Over.set {lo hi : Nat} {w wr : World} (h : Over lo hi w wr) (q : Addr) (v : Value) (h1 : lo ≤ q.block) (h2 : q.block < hi) : Over lo hi w (wr.setCell q v) :=
  ⟨h.below.setCell h1 v, fun k hk hs => (Below.heap_setCell _ _ _ _ (by omega)).trans (h.above k hk hs)⟩

set_option maxHeartbeats 1000000 in
set_option maxRecDepth 100000 in
theorem keeps14_walk (K : StateK) (a : Option Addr) (c : Nat) (l : List EvS) (e : EvS) (w : World) (h : ReadE w (.slice a l.length c) l) (hc : l.length ≤ c) (hz : ∀ x ∈ l, x.data.size ≤ 140737488351232) (he : e.data.size ≤ 140737488351232) :
    Calls Try.prog 7 #[.slice a l.length c, e.val'] w fun x w' => x = .returned (.bool true) ∧ Below w.heap.size w w' := by
  have HK : Hid (∀ wx, Below w.heap.size w wx → Calls Try.prog 9 #[.slice a l.length c] wx fun x w' => ∃ g j k S i E, x = .returned (.tuple #[S.val' g j k, .int .i64 (i : Nat), .int .i64 (E : Nat)]) ∧ OwnSt wx.heap.size w' g j k S ∧ BldEnd l S i E ∧ Below wx.heap.size wx w') := fun wx t => K.build l (h.below t) hc hz
  have HR : Hid (∀ wx, Below w.heap.size w wx → Calls Try.prog 10 #[.slice a l.length c] wx fun x w' => ∃ g j k S i E, x = .returned (.tuple #[S.val' g j k, .int .i64 (i : Nat), .int .i64 (E : Nat)]) ∧ ReadSt w' g j k S ∧ BldEnd l S i E ∧ Below wx.heap.size wx w') := fun wx t => rbuild_any (h.below t) hc hz
  have hml : l.length ≤ 9223372036854775807 := by have := h.1; unfold maxLen at this; omega
  obtain ⟨we, hwe, be, xe, hse⟩ := evBoxed w e
  have BE := Lib.hid be
  have XE := Lib.hid xe
  clear h hz be xe hse
  show Calls Try.prog 7 #[.slice a l.length c, .agg #[.int .i64 e.id, .int .i64 e.kind, .int .i64 e.tick, .int .i64 e.ref, .int .i64 e.step, .int .i64 e.tryN, .bool e.undo, .string e.data]] w _
  go_enter Try.func7, Try.ntmps7
  go_wp2_with fail
  refine (awake14_any K _).mono ?_
  rintro x w1 ⟨rfl, b1⟩
  have B1 := Lib.hid (BE.out.trans (b1.mono BE.out.size))
  have X1 := Lib.hid (XE.out.later b1)
  clear b1 hwe BE XE
  go_wp2_with fail
  refine (HK.out _ B1.out).mono ?_
  rintro x w2 ⟨g, j, k, S, i, E, rfl, o2, hb, b2⟩
  obtain ⟨ga, gc, rfl⟩ := o2.read.g.slice
  obtain ⟨ja, jc, rfl⟩ := o2.read.j.slice
  obtain ⟨ka, kc, rfl⟩ := o2.read.c.slice
  have B2 := Lib.hid (B1.out.trans (b2.mono B1.out.size))
  have X2 := Lib.hid (X1.out.later b2)
  have R2 := Lib.hid o2.read
  have HBE := Lib.hid hb
  clear o2 hb b2 HK X1
  unfold StS.val'
  go_upto_region 4 with (fail)
  obtain ⟨W3, hW3, b3, X3, -⟩ := stBoxed w2 (.slice ga S.prog.steps.length gc) (.slice ja S.jobs.length jc) (.slice ka S.clocks.length kc) S
  rw [hW3]
  have B3 := Lib.hid (B2.out.trans (b3.mono B2.out.size))
  have R3 := Lib.hid (R2.out.below b3)
  have HX3 := Lib.hid X3
  have XE3 := Lib.hid (X2.out.later b3)
  clear hW3 b3 X3 R2 X2
  generalize w2.heap.size = sb at *
  by_cases hE : E = 0
  · by_cases h60 : (60 : Int) < (l.length : Int)
    · subst hE
      go_wp2
      go_ret
      exact ⟨rfl, B3.out⟩
    · have hok : OkH l ∧ S = stateH l := by
        rcases HBE.out with ⟨h1, h2, _⟩ | ⟨_, _, h2, h3, _⟩
        · exact ⟨h1, h2⟩
        · exact (h3 hE).elim
      obtain ⟨ho, hS⟩ := hok
      subst hE
      have HAP : Hid (∀ wx, Below W3.heap.size W3 wx → Calls Try.prog 12 #[.agg #[.slice ga S.prog.steps.length gc, .int .i64 S.prog.limit, .int .i64 S.status, .int .i64 S.next, .int .i64 S.began, .int .i64 S.asked, .int .i64 S.taken, .bool S.fresh, .slice ja S.jobs.length jc, .slice ka S.clocks.length kc, .bool S.cancel, .bool S.overdue], .agg #[.int .i64 e.id, .int .i64 e.kind, .int .i64 e.tick, .int .i64 e.ref, .int .i64 e.step, .int .i64 e.tryN, .bool e.undo, .string e.data]] wx fun x w' => ∃ ga' gc' ja' jc' ka' kc', x = .returned (.tuple #[.agg #[.slice ga' (if errS S e = 0 then stateH (l ++ [e]) else StS.zero).prog.steps.length gc', .int .i64 (if errS S e = 0 then stateH (l ++ [e]) else StS.zero).prog.limit, .int .i64 (if errS S e = 0 then stateH (l ++ [e]) else StS.zero).status, .int .i64 (if errS S e = 0 then stateH (l ++ [e]) else StS.zero).next, .int .i64 (if errS S e = 0 then stateH (l ++ [e]) else StS.zero).began, .int .i64 (if errS S e = 0 then stateH (l ++ [e]) else StS.zero).asked, .int .i64 (if errS S e = 0 then stateH (l ++ [e]) else StS.zero).taken, .bool (if errS S e = 0 then stateH (l ++ [e]) else StS.zero).fresh, .slice ja' (if errS S e = 0 then stateH (l ++ [e]) else StS.zero).jobs.length jc', .slice ka' (if errS S e = 0 then stateH (l ++ [e]) else StS.zero).clocks.length kc', .bool (if errS S e = 0 then stateH (l ++ [e]) else StS.zero).cancel, .bool (if errS S e = 0 then stateH (l ++ [e]) else StS.zero).overdue], .int .i64 (errS S e : Nat)]) ∧ OwnSt wx.heap.size w' (.slice ga' (if errS S e = 0 then stateH (l ++ [e]) else StS.zero).prog.steps.length gc') (.slice ja' (if errS S e = 0 then stateH (l ++ [e]) else StS.zero).jobs.length jc') (.slice ka' (if errS S e = 0 then stateH (l ++ [e]) else StS.zero).clocks.length kc') (if errS S e = 0 then stateH (l ++ [e]) else StS.zero) ∧ Below wx.heap.size wx w') := fun wx t => by
        have hk := K.apply (w := wx) (g := .slice ga S.prog.steps.length gc) (j := .slice ja S.jobs.length jc) (k := .slice ka S.clocks.length kc) l e ho (by rw [← hS]; exact R3.out.below t) he
        rw [← hS] at hk
        refine hk.mono ?_
        rintro x w' ⟨g', j', k', T, E2, rfl, o4, hE2, hT1, hT2, b4⟩
        have hT : T = if errS S e = 0 then stateH (l ++ [e]) else StS.zero := by
          by_cases h0 : errS S e = 0
          · rw [if_pos h0]; exact hT1 (hE2.trans h0)
          · rw [if_neg h0]; exact hT2 (fun h => h0 (hE2.symm.trans h))
        obtain ⟨ta, tc, rfl⟩ := o4.read.g.slice
        obtain ⟨tja, tjc, rfl⟩ := o4.read.j.slice
        obtain ⟨tka, tkc, rfl⟩ := o4.read.c.slice
        rw [← hT, ← hE2]
        exact ⟨ta, tc, tja, tjc, tka, tkc, rfl, o4, b4⟩
      clear hS ho he
      generalize (if errS S e = 0 then stateH (l ++ [e]) else StS.zero) = T at *
      generalize errS S e = ER at *
      have hx3 := HX3.out.cells
      have s0 := (block_cell hx3 0).trans rfl
      have s1 := (block_cell hx3 1).trans rfl
      have s2 := (block_cell hx3 2).trans rfl
      have s3 := (block_cell hx3 3).trans rfl
      have s4 := (block_cell hx3 4).trans rfl
      have s5 := (block_cell hx3 5).trans rfl
      have s6 := (block_cell hx3 6).trans rfl
      have s7 := (block_cell hx3 7).trans rfl
      have s8 := (block_cell hx3 8).trans rfl
      have s9 := (block_cell hx3 9).trans rfl
      have s10 := (block_cell hx3 10).trans rfl
      have s11 := (block_cell hx3 11).trans rfl
      obtain ⟨c0, c1, c2, c3, c4, c5, c6, c7⟩ := XE3.out.c
      clear hx3
      go_wp2_with fail
      refine (HAP.out _ (Below.refl _ _)).mono ?_
      rintro x w4 ⟨ta, tc, tja, tjc, tka, tkc, rfl, o4, b4⟩
      have O4 := Lib.hid o4
      have B4 := Lib.hid b4
      clear o4 b4 s0 s1 s2 s3 s4 s5 s6 s7 s8 s9 s10 s11 c0 c1 c2 c3 c4 c5 c6 c7
      go_upto_region 7 with (fail)
      obtain ⟨W5, hW5, b5, X5, hs5⟩ := stBoxed w4 (.slice ta T.prog.steps.length tc) (.slice tja T.jobs.length tjc) (.slice tka T.clocks.length tkc) T
      rw [hW5]
      have B5 := Lib.hid (B4.out.trans (b5.mono B4.out.size))
      have HS5 : Hid (W5.heap.size = w4.heap.size + 1 ∧ W3.heap.size ≤ w4.heap.size) := ⟨hs5, B4.out.size⟩
      have AX5 := Lib.hid X5
      have O5 := Lib.hid (O4.out.below b5)
      have HBL : Hid ((∀ k, (Value.slice tja T.jobs.length tjc).ownBlock = some k → W3.heap.size ≤ k ∧ k < w4.heap.size) ∧ (∀ k, (Value.slice tka T.clocks.length tkc).ownBlock = some k → W3.heap.size ≤ k ∧ k < w4.heap.size) ∧ ∀ k, (Value.slice ta T.prog.steps.length tc).ownBlock = some k → W3.heap.size ≤ k ∧ k < w4.heap.size) := ⟨O4.out.oj.2.1, O4.out.ok.2.1, O4.out.og.2.1⟩
      clear hW5 b5 X5 hs5
      clear O4 B4
      generalize w4.heap.size = ab at *
      have hx5 := (HX3.out.later B5.out).cells
      have s0 := (block_cell hx5 0).trans rfl
      have s1 := (block_cell hx5 1).trans rfl
      have s2 := (block_cell hx5 2).trans rfl
      have s3 := (block_cell hx5 3).trans rfl
      have s4 := (block_cell hx5 4).trans rfl
      have s5 := (block_cell hx5 5).trans rfl
      have s6 := (block_cell hx5 6).trans rfl
      have s7 := (block_cell hx5 7).trans rfl
      have s8 := (block_cell hx5 8).trans rfl
      have s9 := (block_cell hx5 9).trans rfl
      have s10 := (block_cell hx5 10).trans rfl
      have s11 := (block_cell hx5 11).trans rfl
      obtain ⟨c0, c1, c2, c3, c4, c5, c6, c7⟩ := (XE3.out.later B5.out).c
      clear hx5
      go_wp2_with fail
      refine (HAP.out _ B5.out).mono ?_
      rintro x w6 ⟨ua, uc, uja, ujc, uka, ukc, rfl, o6, b6⟩
      have O6 := Lib.hid o6
      have B6 := Lib.hid b6
      clear o6 b6 s0 s1 s2 s3 s4 s5 s6 s7 s8 s9 s10 s11 c0 c1 c2 c3 c4 c5 c6 c7
      go_upto_region 8 with (fail)
      obtain ⟨W7, hW7, b7, X7, hs7⟩ := stBoxed w6 (.slice ua T.prog.steps.length uc) (.slice uja T.jobs.length ujc) (.slice uka T.clocks.length ukc) T
      rw [hW7]
      have B7 := Lib.hid (B5.out.trans ((B6.out.trans (b7.mono B6.out.size)).mono B5.out.size))
      have B57 := Lib.hid (B6.out.trans (b7.mono B6.out.size))
      have BX7 := Lib.hid X7
      have AX7 := Lib.hid (AX5.out.later (B6.out.trans (b7.mono B6.out.size)))
      have O7 := Lib.hid (O6.out.below b7)
      have HBB0 : Hid (W5.heap.size ≤ w6.heap.size) := B6.out.size
      clear hW7 b7 X7 hs7
      generalize w6.heap.size = bb at *
      have HJW : Hid (WrRow W7 4 3 T.jobs.length (.slice tja T.jobs.length tjc)) := ((O5.out.below B57.out).oj).wr JobS.len (by omega)
      have HCW : Hid (WrRow W7 3 2 T.clocks.length (.slice tka T.clocks.length tkc)) := ((O5.out.below B57.out).ok).wr ClkS.len (by omega)
      have HGW : Hid (WrRow W7 6 1 T.prog.steps.length (.slice ta T.prog.steps.length tc)) := ((O5.out.below B57.out).og).wr StepS.len (by omega)
      have HLN : Hid (T.jobs.length ≤ 9223372036854775807 ∧ T.clocks.length ≤ 9223372036854775807 ∧ T.prog.steps.length ≤ 9223372036854775807) := by
        have h1 := O7.out.read.j.1
        have h2 := O7.out.read.c.1
        have h3 := O7.out.read.g.1
        unfold maxLen at h1 h2 h3
        exact ⟨by omega, by omega, by omega⟩
      have HAB : Hid (∀ wr, Over W3.heap.size ab W7 wr → StBox wr ab (.slice ta T.prog.steps.length tc) (.slice tja T.jobs.length tjc) (.slice tka T.clocks.length tkc) T) := fun wr t => (t.above ab (Nat.le_refl _) AX7.out.lt).trans AX7.out
      have HS0 : Hid (Over W3.heap.size ab W7 W7 ∧ WrRow W7 4 3 T.jobs.length (.slice tja T.jobs.length tjc) ∧ WrRow W7 3 2 T.clocks.length (.slice tka T.clocks.length tkc) ∧ WrRow W7 6 1 T.prog.steps.length (.slice ta T.prog.steps.length tc)) := ⟨Over.refl _ _ _, HJW.out, HCW.out, HGW.out⟩
      have ax7 := AX7.out.cells
      have d0 := (block_cell ax7 0).trans rfl
      have d8 := (block_cell ax7 8).trans rfl
      have d9 := (block_cell ax7 9).trans rfl
      clear ax7 HJW HCW HGW
      have hlen0 := HLN.out.1
      go_wp2
      clear d0 d8 d9
      go_loopw [53] (fun iv wr => ∃ i : Nat, i ≤ T.jobs.length ∧ iv = .int .i64 (i : Int) ∧ Hid (Over W3.heap.size ab W7 wr ∧ WrRow wr 4 3 T.jobs.length (.slice tja T.jobs.length tjc) ∧ WrRow wr 3 2 T.clocks.length (.slice tka T.clocks.length tkc) ∧ WrRow wr 6 1 T.prog.steps.length (.slice ta T.prog.steps.length tc))) (fun iv _ => T.jobs.length - (intOf iv).toNat)
      case atStart => exact ⟨0, Nat.zero_le _, rfl, HS0.out⟩
      case round =>
        obtain ⟨i, hi, rfl, HI⟩ := hrel
        have axr := (HAB.out _ HI.out.1).cells
        have d0 := (block_cell axr 0).trans rfl
        have d8 := (block_cell axr 8).trans rfl
        have d9 := (block_cell axr 9).trans rfl
        clear axr
        by_cases hlt : i < T.jobs.length
        · have hmes : T.jobs.length - (intOf (.int .i64 ((i : Int) + 1))).toNat < T.jobs.length - (intOf (.int .i64 (i : Int))).toNat := by simp [intOf]; omega
          have hi1 : (0 : Int) ≤ (i : Int) := Int.natCast_nonneg _
          have hi2 : (i : Int) < (T.jobs.length : Int) := by omega
          obtain ⟨av, cv, hv, hw⟩ := HI.out.2.1
          injection hv with e1 _ _
          obtain ⟨b, o, e2, ⟨u, hu⟩, hf⟩ := hw i hlt
          rw [e2] at e1
          subst e1
          obtain ⟨hb1, hb2⟩ := HBL.out.1 b rfl
          have HB12 : Hid (W3.heap.size ≤ b ∧ b < ab) := ⟨hb1, hb2⟩
          clear hw e2 hb1 hb2
          go_wp2
          go_roundw
          case rel => exact ⟨i + 1, by omega, by go_num, HI.out.1.set _ _ HB12.out.1 HB12.out.2, HI.out.2.1.set _ _, HI.out.2.2.1.set _ _, HI.out.2.2.2.set _ _⟩
          case measure => exact hmes
        · obtain rfl : i = T.jobs.length := by omega
          have hlen1 := HLN.out.2.1
          have hll1 : ¬ (T.jobs.length : Int) < (T.jobs.length : Int) := by omega
          go_wp2
          clear d0 d8 d9
          clear hll1
          go_loopw [65] (fun iv wr => ∃ i : Nat, i ≤ T.clocks.length ∧ iv = .int .i64 (i : Int) ∧ Hid (Over W3.heap.size ab W7 wr ∧ WrRow wr 4 3 T.jobs.length (.slice tja T.jobs.length tjc) ∧ WrRow wr 3 2 T.clocks.length (.slice tka T.clocks.length tkc) ∧ WrRow wr 6 1 T.prog.steps.length (.slice ta T.prog.steps.length tc))) (fun iv _ => T.clocks.length - (intOf iv).toNat)
          case atStart => exact ⟨0, Nat.zero_le _, rfl, HI.out⟩
          case round =>
            clear HI
            obtain ⟨i, hi, rfl, HI⟩ := hrel
            have axr := (HAB.out _ HI.out.1).cells
            have d0 := (block_cell axr 0).trans rfl
            have d8 := (block_cell axr 8).trans rfl
            have d9 := (block_cell axr 9).trans rfl
            clear axr
            by_cases hlt : i < T.clocks.length
            · have hmes : T.clocks.length - (intOf (.int .i64 ((i : Int) + 1))).toNat < T.clocks.length - (intOf (.int .i64 (i : Int))).toNat := by simp [intOf]; omega
              have hi1 : (0 : Int) ≤ (i : Int) := Int.natCast_nonneg _
              have hi2 : (i : Int) < (T.clocks.length : Int) := by omega
              obtain ⟨av, cv, hv, hw⟩ := HI.out.2.2.1
              injection hv with e1 _ _
              obtain ⟨b, o, e2, ⟨u, hu⟩, hf⟩ := hw i hlt
              rw [e2] at e1
              subst e1
              obtain ⟨hb1, hb2⟩ := HBL.out.2.1 b rfl
              have HB12 : Hid (W3.heap.size ≤ b ∧ b < ab) := ⟨hb1, hb2⟩
              clear hw e2 hb1 hb2
              go_wp2
              go_roundw
              case rel => exact ⟨i + 1, by omega, by go_num, HI.out.1.set _ _ HB12.out.1 HB12.out.2, HI.out.2.1.set _ _, HI.out.2.2.1.set _ _, HI.out.2.2.2.set _ _⟩
              case measure => exact hmes
            · obtain rfl : i = T.clocks.length := by omega
              have hlen2 := HLN.out.2.2
              have hll2 : ¬ (T.clocks.length : Int) < (T.clocks.length : Int) := by omega
              go_wp2
              clear d0 d8 d9
              clear hll2
              go_loopw [78] (fun iv wr => ∃ i : Nat, i ≤ T.prog.steps.length ∧ iv = .int .i64 (i : Int) ∧ Hid (Over W3.heap.size ab W7 wr ∧ WrRow wr 4 3 T.jobs.length (.slice tja T.jobs.length tjc) ∧ WrRow wr 3 2 T.clocks.length (.slice tka T.clocks.length tkc) ∧ WrRow wr 6 1 T.prog.steps.length (.slice ta T.prog.steps.length tc))) (fun iv _ => T.prog.steps.length - (intOf iv).toNat)
              case atStart => exact ⟨0, Nat.zero_le _, rfl, HI.out⟩
              case round =>
                clear HI
                obtain ⟨i, hi, rfl, HI⟩ := hrel
                have axr := (HAB.out _ HI.out.1).cells
                have d0 := (block_cell axr 0).trans rfl
                have d8 := (block_cell axr 8).trans rfl
                have d9 := (block_cell axr 9).trans rfl
                clear axr
                by_cases hlt : i < T.prog.steps.length
                · have hmes : T.prog.steps.length - (intOf (.int .i64 ((i : Int) + 1))).toNat < T.prog.steps.length - (intOf (.int .i64 (i : Int))).toNat := by simp [intOf]; omega
                  have hi1 : (0 : Int) ≤ (i : Int) := Int.natCast_nonneg _
                  have hi2 : (i : Int) < (T.prog.steps.length : Int) := by omega
                  obtain ⟨av, cv, hv, hw⟩ := HI.out.2.2.2
                  injection hv with e1 _ _
                  obtain ⟨b, o, e2, ⟨u, hu⟩, hf⟩ := hw i hlt
                  rw [e2] at e1
                  subst e1
                  obtain ⟨hb1, hb2⟩ := HBL.out.2.2 b rfl
                  have HB12 : Hid (W3.heap.size ≤ b ∧ b < ab) := ⟨hb1, hb2⟩
                  clear hw e2 hb1 hb2
                  go_wp2
                  go_roundw
                  case rel => exact ⟨i + 1, by omega, by go_num, HI.out.1.set _ _ HB12.out.1 HB12.out.2, HI.out.2.1.set _ _, HI.out.2.2.1.set _ _, HI.out.2.2.2.set _ _⟩
                  case measure => exact hmes
                · obtain rfl : i = T.prog.steps.length := by omega
                  have hll3 : ¬ (T.prog.steps.length : Int) < (T.prog.steps.length : Int) := by omega
                  have HWR := Lib.hid (B7.out.trans HI.out.1.below)
                  have HWW := Lib.hid (B3.out.trans (HWR.out.mono B3.out.size))
                  have XER := Lib.hid (XE3.out.later HWR.out)
                  have HXR := Lib.hid (HX3.out.later HWR.out)
                  have RSR := Lib.hid (R3.out.below HWR.out)
                  have HBB : Hid (ab ≤ bb ∧ bb < W7.heap.size) := ⟨by have h1 := HS5.out.1; have h2 := HBB0.out; omega, BX7.out.lt⟩
                  have BXR : Hid (StBox wr bb (.slice ua T.prog.steps.length uc) (.slice uja T.jobs.length ujc) (.slice uka T.clocks.length ukc) T) := (HI.out.1.above bb HBB.out.1 HBB.out.2).trans BX7.out
                  have RBR : Hid (ReadSt wr (.slice ua T.prog.steps.length uc) (.slice uja T.jobs.length ujc) (.slice uka T.clocks.length ukc) T) := by
                    have h1 := HS5.out.1
                    exact ⟨O7.out.read.g.agree fun k hk => HI.out.1.above k (by have := O7.out.og.2.1 k hk; omega) (O7.out.og.2.1 k hk).2, O7.out.read.j.agree fun k hk => HI.out.1.above k (by have := O7.out.oj.2.1 k hk; omega) (O7.out.oj.2.1 k hk).2, O7.out.read.c.agree fun k hk => HI.out.1.above k (by have := O7.out.ok.2.1 k hk; omega) (O7.out.ok.2.1 k hk).2⟩
                  clear HI
                  go_wp2_with fail
                  refine (HR.out _ HWW.out).mono ?_
                  rintro x8 w8 ⟨g, j, k, U, i', E', rfl, r8, hb, b8⟩
                  obtain ⟨rfl, rfl, rfl⟩ := bld_one HBE.out hb
                  obtain ⟨va, vc, rfl⟩ := r8.g.slice
                  obtain ⟨vja, vjc, rfl⟩ := r8.j.slice
                  obtain ⟨vka, vkc, rfl⟩ := r8.c.slice
                  have B8 := Lib.hid b8
                  have U8 := Lib.hid r8
                  clear r8 hb b8 hll3 d0 d8 d9
                  unfold StS.val'
                  go_upto_region 26 with (fail)
                  obtain ⟨W9, hW9, b9, X9, -⟩ := stBoxed w8 (.slice va U.prog.steps.length vc) (.slice vja U.jobs.length vjc) (.slice vka U.clocks.length vkc) U
                  rw [hW9]
                  have B9 := Lib.hid (B8.out.trans (b9.mono B8.out.size))
                  have UX9 := Lib.hid X9
                  have U9 := Lib.hid (U8.out.below b9)
                  clear hW9 b9 X9 U8
                  generalize w8.heap.size = vb at *
                  have hx9 := (HXR.out.later B9.out).cells
                  have s0 := (block_cell hx9 0).trans rfl
                  have s1 := (block_cell hx9 1).trans rfl
                  have s2 := (block_cell hx9 2).trans rfl
                  have s3 := (block_cell hx9 3).trans rfl
                  have s4 := (block_cell hx9 4).trans rfl
                  have s5 := (block_cell hx9 5).trans rfl
                  have s6 := (block_cell hx9 6).trans rfl
                  have s7 := (block_cell hx9 7).trans rfl
                  have s8 := (block_cell hx9 8).trans rfl
                  have s9 := (block_cell hx9 9).trans rfl
                  have s10 := (block_cell hx9 10).trans rfl
                  have s11 := (block_cell hx9 11).trans rfl
                  obtain ⟨c0, c1, c2, c3, c4, c5, c6, c7⟩ := (XER.out.later B9.out).c
                  clear hx9
                  go_wp2_with fail
                  refine (HAP.out _ (HWR.out.trans (B9.out.mono HWR.out.size))).mono ?_
                  rintro x10 w10 ⟨ya, yc, yja, yjc, yka, ykc, rfl, o10, b10⟩
                  have R10 := Lib.hid o10.read
                  have B10 := Lib.hid b10
                  clear o10 b10 s0 s1 s2 s3 s4 s5 s6 s7 s8 s9 s10 s11 c0 c1 c2 c3 c4 c5 c6 c7
                  go_upto_region 27 with (fail)
                  obtain ⟨W11, hW11, b11, X11, -⟩ := stBoxed w10 (.slice ya T.prog.steps.length yc) (.slice yja T.jobs.length yjc) (.slice yka T.clocks.length ykc) T
                  rw [hW11]
                  have B11 := Lib.hid (B9.out.trans ((B10.out.trans (b11.mono B10.out.size)).mono B9.out.size))
                  have B911 := Lib.hid (B10.out.trans (b11.mono B10.out.size))
                  have R11 := Lib.hid (R10.out.below b11)
                  have YX11 := Lib.hid X11
                  clear hW11 b11 X11 R10
                  generalize w10.heap.size = yb at *
                  have HSA := Lib.hid (rsame14_any U U (RSR.out.below B11.out) (U9.out.below B911.out))
                  rw [sameSt_refl] at HSA
                  unfold StS.val' at HSA
                  have hxa := (HXR.out.later B11.out).cells
                  have hya := (UX9.out.later B911.out).cells
                  have s0 := (block_cell hxa 0).trans rfl
                  have s1 := (block_cell hxa 1).trans rfl
                  have s2 := (block_cell hxa 2).trans rfl
                  have s3 := (block_cell hxa 3).trans rfl
                  have s4 := (block_cell hxa 4).trans rfl
                  have s5 := (block_cell hxa 5).trans rfl
                  have s6 := (block_cell hxa 6).trans rfl
                  have s7 := (block_cell hxa 7).trans rfl
                  have s8 := (block_cell hxa 8).trans rfl
                  have s9 := (block_cell hxa 9).trans rfl
                  have s10 := (block_cell hxa 10).trans rfl
                  have s11 := (block_cell hxa 11).trans rfl
                  have t0 := (block_cell hya 0).trans rfl
                  have t1 := (block_cell hya 1).trans rfl
                  have t2 := (block_cell hya 2).trans rfl
                  have t3 := (block_cell hya 3).trans rfl
                  have t4 := (block_cell hya 4).trans rfl
                  have t5 := (block_cell hya 5).trans rfl
                  have t6 := (block_cell hya 6).trans rfl
                  have t7 := (block_cell hya 7).trans rfl
                  have t8 := (block_cell hya 8).trans rfl
                  have t9 := (block_cell hya 9).trans rfl
                  have t10 := (block_cell hya 10).trans rfl
                  have t11 := (block_cell hya 11).trans rfl
                  clear hxa hya
                  go_wp2_with fail
                  refine HSA.out.mono ?_
                  rintro x12 w12 ⟨rfl, b12⟩
                  have B12 := Lib.hid (B11.out.trans (b12.mono B11.out.size))
                  have HSB := Lib.hid (rsame14_any T T (R11.out.below b12) (RBR.out.below B12.out))
                  rw [sameSt_refl] at HSB
                  unfold StS.val' at HSB
                  have hxb := (YX11.out.later b12).cells
                  have hyb := (BXR.out.later B12.out).cells
                  clear s0 s1 s2 s3 s4 s5 s6 s7 s8 s9 s10 s11 t0 t1 t2 t3 t4 t5 t6 t7 t8 t9 t10 t11 b12 HSA
                  have s0 := (block_cell hxb 0).trans rfl
                  have s1 := (block_cell hxb 1).trans rfl
                  have s2 := (block_cell hxb 2).trans rfl
                  have s3 := (block_cell hxb 3).trans rfl
                  have s4 := (block_cell hxb 4).trans rfl
                  have s5 := (block_cell hxb 5).trans rfl
                  have s6 := (block_cell hxb 6).trans rfl
                  have s7 := (block_cell hxb 7).trans rfl
                  have s8 := (block_cell hxb 8).trans rfl
                  have s9 := (block_cell hxb 9).trans rfl
                  have s10 := (block_cell hxb 10).trans rfl
                  have s11 := (block_cell hxb 11).trans rfl
                  have t0 := (block_cell hyb 0).trans rfl
                  have t1 := (block_cell hyb 1).trans rfl
                  have t2 := (block_cell hyb 2).trans rfl
                  have t3 := (block_cell hyb 3).trans rfl
                  have t4 := (block_cell hyb 4).trans rfl
                  have t5 := (block_cell hyb 5).trans rfl
                  have t6 := (block_cell hyb 6).trans rfl
                  have t7 := (block_cell hyb 7).trans rfl
                  have t8 := (block_cell hyb 8).trans rfl
                  have t9 := (block_cell hyb 9).trans rfl
                  have t10 := (block_cell hyb 10).trans rfl
                  have t11 := (block_cell hyb 11).trans rfl
                  clear hxb hyb
                  go_wp2_with fail
                  refine HSB.out.mono ?_
                  rintro x13 w13 ⟨rfl, b13⟩
                  have B13 := Lib.hid (HWW.out.trans ((B12.out.trans (b13.mono B12.out.size)).mono HWW.out.size))
                  clear b13 s0 s1 s2 s3 s4 s5 s6 s7 s8 s9 s10 s11 t0 t1 t2 t3 t4 t5 t6 t7 t8 t9 t10 t11
                  go_wp2
                  go_ret
                  exact ⟨rfl, B13.out⟩
  · have g0 : ((E : Int) != 0) = true := by rw [bne_iff_ne]; omega
    clear hE
    go_wp2
    go_ret
    exact ⟨rfl, B3.out⟩
end Go.Proofs.Ytlkfpeefjpmmfaa

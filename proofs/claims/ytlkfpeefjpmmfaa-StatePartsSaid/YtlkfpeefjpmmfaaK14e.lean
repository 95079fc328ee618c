/- Layer 14's laws, whatever the program: the walk of StateParts. -/
import Derived.Test.YtlkfpeefjpmmfaaK14d
namespace Go.Proofs.Ytlkfpeefjpmmfaa
open Go.RowKit
set_option linter.unusedVariables false

theorem ReadE.drop {w : World} {a : Option Addr} {n c c' : Nat} {l : List EvS} (h : ReadE w (.slice a n c) l) {i : Nat} (hi : i < l.length) : ∃ b o, a = some ⟨b, o, none⟩ ∧ ReadE w (.slice (some ⟨b, o + i * 8, none⟩) (l.length - i) c') (l.drop i) := by
  obtain ⟨h1, h2, a', c0, hv, h3⟩ := h
  injection hv with e1 e2 e3
  subst e1
  rcases h3 with h3 | ⟨b, o, rfl, h3⟩
  · subst h3; simp at hi
  · refine ⟨b, o, rfl, ?_⟩
    have hl : (l.drop i).length = l.length - i := by rw [List.length_drop]
    refine ⟨by omega, fun x hx => h2 x (List.mem_of_mem_drop hx), some ⟨b, o + i * 8, none⟩, c', by rw [hl], .inr ⟨b, o + i * 8, rfl, fun k hk j u hu => ?_⟩⟩
    rw [hl] at hk
    rw [List.getElem_drop] at hu
    have := h3 (i + k) (by omega) j u hu
    rw [Nat.add_mul] at this
    rw [show o + i * 8 + k * 8 + j = o + (i * 8 + k * 8) + j by omega]
    exact this
theorem slEv : Try.prog.underlying 22 = some (.slice (Try.prog.elem 22)) := by kernel_rfl
theorem szEv : ∀ w, (sizeOf (Try.prog.elem 22)).run Try.prog w = .ok 8 w := fun w => by kernel_rfl
/-- The events from the m-th on. -/
theorem evs_cut {w : World} {a : Option Addr} {c : Nat} {l : List EvS} (h : ReadE w (.slice a l.length c) l) (hc : l.length ≤ c) {m : Nat} (hm : m ≤ l.length) : ∃ A C,
    (∀ wx, (Instr.slice 22 (.slice a l.length c) (some (.int .i64 (m : Int))) none none).run Try.prog wx = .ok (.slice A (l.length - m) C) wx) ∧
      ∀ i, m + i < l.length → ∃ b o, A = some ⟨b, o, none⟩ ∧ ∀ wx, Below w.heap.size w wx → ∀ j u, (l.getD (m + i) EvS.zero).cells[j]? = some u → wx.cell? ⟨b, o + i * 8 + j, none⟩ = some u := by
  have hr := fun wx => run_slice_l (P := Try.prog) (w := wx) 22 a l.length c slEv .i64 (m : Int) (by omega) (by omega)
  have hr2 : ∀ wx, (Instr.slice 22 (.slice a l.length c) (some (.int .i64 (m : Int))) none none).run Try.prog wx = .ok (sliced a m l.length c 8) wx := fun wx => by
    have := hr wx
    rw [szEv] at this
    rw [this]
    rfl
  by_cases hlt : m < l.length
  · obtain ⟨h1, h2, a', c0, hv, h3⟩ := h
    injection hv with e1 e2 e3
    subst e1
    rcases h3 with h3 | ⟨b, o, rfl, h3⟩
    · subst h3; simp at hlt
    · by_cases hcm : c = m
      · omega
      · refine ⟨some ⟨b, o + m * 8, none⟩, c - m, fun wx => ?_, fun i hi => ⟨b, o + m * 8, rfl, fun wx t j u hu => ?_⟩⟩
        · rw [hr2]; unfold sliced; simp [Addr.add, hcm]
        · have hg : l.getD (m + i) EvS.zero = l[m + i] := by simp [List.getD, List.getElem?_eq_getElem hi]
          rw [hg] at hu
          have := h3 (m + i) hi j u hu
          have hc := (t.cell (World.block_lt_of_cell? w _ this)).trans this
          rw [Nat.add_mul] at hc
          rw [show o + m * 8 + i * 8 + j = o + (m * 8 + i * 8) + j by omega]
          exact hc
  · cases hs : sliced a m l.length c 8 with
    | slice A n' C =>
      have hn : n' = l.length - m := by unfold sliced at hs; injection hs with _ e _; exact e.symm
      subst hn
      exact ⟨A, C, fun wx => by rw [hr2, hs], fun i hi => by omega⟩
    | _ => unfold sliced at hs; cases hs
theorem cut_in (n : Int) {N : Int} (h : 0 < N) (hb : N ≤ 1000) : ∃ m : Nat, (m : Int) < N ∧ -N < n.tmod N ∧ n.tmod N < N ∧ (n.tmod N + N).tmod N = (m : Int) := by
  have h1 := Int.lt_tmod_of_pos n h
  have h2 := Int.tmod_lt_of_pos n h
  have h3 : 0 ≤ n.tmod N + N := by omega
  have h4 := Int.tmod_nonneg N h3
  have h5 := Int.tmod_lt_of_pos (n.tmod N + N) h
  exact ⟨((n.tmod N + N).tmod N).toNat, by omega, h1, h2, by omega⟩

theorem setSt_box {w : World} {q : Nat} {v0 v1 v2 v3 v4 v5 v6 v7 v8 v9 v10 v11 : Value} {t : TypeId} (h : w.heap[q]? = some (.cells #[v0, v1, v2, v3, v4, v5, v6, v7, v8, v9, v10, v11] t (0, 0))) (u0 u1 u2 u3 u4 u5 u6 u7 u8 u9 u10 u11 : Value) :
    ((((((((((((w.setCell ⟨q, 0, none⟩ u0).setCell ⟨q, 1, none⟩ u1).setCell ⟨q, 2, none⟩ u2).setCell ⟨q, 3, none⟩ u3).setCell ⟨q, 4, none⟩ u4).setCell ⟨q, 5, none⟩ u5).setCell ⟨q, 6, none⟩ u6).setCell ⟨q, 7, none⟩ u7).setCell ⟨q, 8, none⟩ u8).setCell ⟨q, 9, none⟩ u9).setCell ⟨q, 10, none⟩ u10).setCell ⟨q, 11, none⟩ u11).heap[q]? = some (.cells #[u0, u1, u2, u3, u4, u5, u6, u7, u8, u9, u10, u11] t (0, 0)) := by
  have h0 : (w.setCell ⟨q, 0, none⟩ u0).heap[q]? = some (.cells #[u0, v1, v2, v3, v4, v5, v6, v7, v8, v9, v10, v11] t (0, 0)) := block_set h 0 u0
  have h1 : ((w.setCell ⟨q, 0, none⟩ u0).setCell ⟨q, 1, none⟩ u1).heap[q]? = some (.cells #[u0, u1, v2, v3, v4, v5, v6, v7, v8, v9, v10, v11] t (0, 0)) := block_set h0 1 u1
  have h2 : (((w.setCell ⟨q, 0, none⟩ u0).setCell ⟨q, 1, none⟩ u1).setCell ⟨q, 2, none⟩ u2).heap[q]? = some (.cells #[u0, u1, u2, v3, v4, v5, v6, v7, v8, v9, v10, v11] t (0, 0)) := block_set h1 2 u2
  have h3 : ((((w.setCell ⟨q, 0, none⟩ u0).setCell ⟨q, 1, none⟩ u1).setCell ⟨q, 2, none⟩ u2).setCell ⟨q, 3, none⟩ u3).heap[q]? = some (.cells #[u0, u1, u2, u3, v4, v5, v6, v7, v8, v9, v10, v11] t (0, 0)) := block_set h2 3 u3
  have h4 : (((((w.setCell ⟨q, 0, none⟩ u0).setCell ⟨q, 1, none⟩ u1).setCell ⟨q, 2, none⟩ u2).setCell ⟨q, 3, none⟩ u3).setCell ⟨q, 4, none⟩ u4).heap[q]? = some (.cells #[u0, u1, u2, u3, u4, v5, v6, v7, v8, v9, v10, v11] t (0, 0)) := block_set h3 4 u4
  have h5 : ((((((w.setCell ⟨q, 0, none⟩ u0).setCell ⟨q, 1, none⟩ u1).setCell ⟨q, 2, none⟩ u2).setCell ⟨q, 3, none⟩ u3).setCell ⟨q, 4, none⟩ u4).setCell ⟨q, 5, none⟩ u5).heap[q]? = some (.cells #[u0, u1, u2, u3, u4, u5, v6, v7, v8, v9, v10, v11] t (0, 0)) := block_set h4 5 u5
  have h6 : (((((((w.setCell ⟨q, 0, none⟩ u0).setCell ⟨q, 1, none⟩ u1).setCell ⟨q, 2, none⟩ u2).setCell ⟨q, 3, none⟩ u3).setCell ⟨q, 4, none⟩ u4).setCell ⟨q, 5, none⟩ u5).setCell ⟨q, 6, none⟩ u6).heap[q]? = some (.cells #[u0, u1, u2, u3, u4, u5, u6, v7, v8, v9, v10, v11] t (0, 0)) := block_set h5 6 u6
  have h7 : ((((((((w.setCell ⟨q, 0, none⟩ u0).setCell ⟨q, 1, none⟩ u1).setCell ⟨q, 2, none⟩ u2).setCell ⟨q, 3, none⟩ u3).setCell ⟨q, 4, none⟩ u4).setCell ⟨q, 5, none⟩ u5).setCell ⟨q, 6, none⟩ u6).setCell ⟨q, 7, none⟩ u7).heap[q]? = some (.cells #[u0, u1, u2, u3, u4, u5, u6, u7, v8, v9, v10, v11] t (0, 0)) := block_set h6 7 u7
  have h8 : (((((((((w.setCell ⟨q, 0, none⟩ u0).setCell ⟨q, 1, none⟩ u1).setCell ⟨q, 2, none⟩ u2).setCell ⟨q, 3, none⟩ u3).setCell ⟨q, 4, none⟩ u4).setCell ⟨q, 5, none⟩ u5).setCell ⟨q, 6, none⟩ u6).setCell ⟨q, 7, none⟩ u7).setCell ⟨q, 8, none⟩ u8).heap[q]? = some (.cells #[u0, u1, u2, u3, u4, u5, u6, u7, u8, v9, v10, v11] t (0, 0)) := block_set h7 8 u8
  have h9 : ((((((((((w.setCell ⟨q, 0, none⟩ u0).setCell ⟨q, 1, none⟩ u1).setCell ⟨q, 2, none⟩ u2).setCell ⟨q, 3, none⟩ u3).setCell ⟨q, 4, none⟩ u4).setCell ⟨q, 5, none⟩ u5).setCell ⟨q, 6, none⟩ u6).setCell ⟨q, 7, none⟩ u7).setCell ⟨q, 8, none⟩ u8).setCell ⟨q, 9, none⟩ u9).heap[q]? = some (.cells #[u0, u1, u2, u3, u4, u5, u6, u7, u8, u9, v10, v11] t (0, 0)) := block_set h8 9 u9
  have h10 : (((((((((((w.setCell ⟨q, 0, none⟩ u0).setCell ⟨q, 1, none⟩ u1).setCell ⟨q, 2, none⟩ u2).setCell ⟨q, 3, none⟩ u3).setCell ⟨q, 4, none⟩ u4).setCell ⟨q, 5, none⟩ u5).setCell ⟨q, 6, none⟩ u6).setCell ⟨q, 7, none⟩ u7).setCell ⟨q, 8, none⟩ u8).setCell ⟨q, 9, none⟩ u9).setCell ⟨q, 10, none⟩ u10).heap[q]? = some (.cells #[u0, u1, u2, u3, u4, u5, u6, u7, u8, u9, u10, v11] t (0, 0)) := block_set h9 10 u10
  have h11 : ((((((((((((w.setCell ⟨q, 0, none⟩ u0).setCell ⟨q, 1, none⟩ u1).setCell ⟨q, 2, none⟩ u2).setCell ⟨q, 3, none⟩ u3).setCell ⟨q, 4, none⟩ u4).setCell ⟨q, 5, none⟩ u5).setCell ⟨q, 6, none⟩ u6).setCell ⟨q, 7, none⟩ u7).setCell ⟨q, 8, none⟩ u8).setCell ⟨q, 9, none⟩ u9).setCell ⟨q, 10, none⟩ u10).setCell ⟨q, 11, none⟩ u11).heap[q]? = some (.cells #[u0, u1, u2, u3, u4, u5, u6, u7, u8, u9, u10, u11] t (0, 0)) := block_set h10 11 u11
  exact h11
theorem arr_text (s : StS) (ga ja ka : Option Addr) (gn gc jn jc kn kc : Nat) : ∀ (i : Nat) (t : ByteArray), (s.arr (.slice ga gn gc) (.slice ja jn jc) (.slice ka kn kc))[i]? ≠ some (Value.string t) := by
  intro i t h
  have hi : i < (s.arr (.slice ga gn gc) (.slice ja jn jc) (.slice ka kn kc)).size := (Array.getElem?_eq_some_iff.1 h).1
  have hi : i < 12 := hi
  have hk : i = 0 ∨ i = 1 ∨ i = 2 ∨ i = 3 ∨ i = 4 ∨ i = 5 ∨ i = 6 ∨ i = 7 ∨ i = 8 ∨ i = 9 ∨ i = 10 ∨ i = 11 := by omega
  rcases hk with rfl | rfl | rfl | rfl | rfl | rfl | rfl | rfl | rfl | rfl | rfl | rfl <;> simp [StS.arr] at h

set_option maxHeartbeats 1000000 in
set_option maxRecDepth 100000 in
theorem parts14_walk (K : StateK) (a : Option Addr) (c : Nat) (l : List EvS) (n : Int) (w : World) (h : ReadE w (.slice a l.length c) l) (hc : l.length ≤ c) (hz : ∀ x ∈ l, x.data.size ≤ 140737488351232) :
    Calls Try.prog 6 #[.slice a l.length c, .int .i64 n] w fun x w' => x = .returned (.bool true) ∧ Below w.heap.size w w' := by
  have HK : Hid (∀ wx, Below w.heap.size w wx → Calls Try.prog 9 #[.slice a l.length c] wx fun x w' => ∃ g j k S i E, x = .returned (.tuple #[S.val' g j k, .int .i64 (i : Nat), .int .i64 (E : Nat)]) ∧ OwnSt wx.heap.size w' g j k S ∧ BldEnd l S i E ∧ Below wx.heap.size wx w') := fun wx t => K.build l (h.below t) hc hz
  have HKP : Hid (∀ wx i, i ≤ l.length → Below w.heap.size w wx → Calls Try.prog 9 #[.slice a i c] wx fun x w' => ∃ g j k S q E, x = .returned (.tuple #[S.val' g j k, .int .i64 (q : Nat), .int .i64 (E : Nat)]) ∧ OwnSt wx.heap.size w' g j k S ∧ BldEnd (l.take i) S q E ∧ Below wx.heap.size wx w') := fun wx i hi t => by
    have h1 := (h.take hi).below t
    have hl : (l.take i).length = i := by rw [List.length_take]; omega
    have := K.build (w := wx) (a := a) (c := c) (l.take i) (by rw [hl]; exact h1) (by omega) (fun x hx => hz x (List.mem_of_mem_take hx))
    rw [hl] at this
    exact this
  have hml : l.length ≤ 9223372036854775807 := by have := h.1; unfold maxLen at this; omega
  have H := Lib.hid h
  have HZ := Lib.hid hz
  clear h hz
  go_enter Try.func6, Try.ntmps6
  go_wp2_with fail
  refine (awake14_any K _).mono ?_
  rintro x w1 ⟨rfl, b1⟩
  have B1 := Lib.hid b1
  clear b1
  go_wp2_with fail
  refine (HK.out _ B1.out).mono ?_
  rintro x w2 ⟨g, j, k, S, i, E, rfl, o2, hb, b2⟩
  obtain ⟨ga, gc, rfl⟩ := o2.read.g.slice
  obtain ⟨ja, jc, rfl⟩ := o2.read.j.slice
  obtain ⟨ka, kc, rfl⟩ := o2.read.c.slice
  have B2 := Lib.hid (B1.out.trans (b2.mono B1.out.size))
  have R2 := Lib.hid o2.read
  have HBE := Lib.hid hb
  clear o2 hb b2 HK
  unfold StS.val'
  go_upto_region 4 with (fail)
  obtain ⟨W3, hW3, b3, X3, -⟩ := stBoxed w2 (.slice ga S.prog.steps.length gc) (.slice ja S.jobs.length jc) (.slice ka S.clocks.length kc) S
  rw [hW3]
  have B3 := Lib.hid (B2.out.trans (b3.mono B2.out.size))
  have R3 := Lib.hid (R2.out.below b3)
  have HX3 := Lib.hid X3
  clear hW3 b3 X3 R2
  generalize w2.heap.size = sb at *
  by_cases hE : E = 0
  · subst hE
    have hok : OkH l ∧ S = stateH l ∧ i = 0 := by
      rcases HBE.out with ⟨h1, h2, h3, _⟩ | ⟨_, _, h2, h3, _⟩
      · exact ⟨h1, h2, h3⟩
      · exact (h3 rfl).elim
    obtain ⟨ho, hS, rfl⟩ := hok
    have hlen := ho.len
    obtain ⟨m, hm1, hm2, hm3, hm4⟩ := cut_in n (N := (l.length : Int) + 1) (by omega) (by omega)
    have hio : IntKind.i64.wrap ((l.length : Int) + 1) = (l.length : Int) + 1 := IntWalk.i64_in _ ⟨by omega, by omega⟩
    generalize hr : n.tmod ((l.length : Int) + 1) = r at *
    have hw1 : IntKind.i64.wrap (r + (l.length : Int)) = r + (l.length : Int) := IntWalk.i64_in _ ⟨by omega, by omega⟩
    have hw2 : IntKind.i64.wrap (r + (l.length : Int) + 1) = r + ((l.length : Int) + 1) := by rw [IntWalk.i64_in _ ⟨by omega, by omega⟩]; omega
    have hne : ¬ ((l.length : Int) + 1 = 0) := by omega
    have HOK := Lib.hid ho
    have HSS := Lib.hid hS
    clear hS ho
    have hm0 : (0 : Int) ≤ (m : Int) := Int.natCast_nonneg _
    have hml2 : m ≤ l.length := by omega
    have hmc : (m : Int) ≤ (c : Int) := by omega
    have HKM := Lib.hid (HKP.out W3 m hml2 B3.out)
    have HOM := Lib.hid (HOK.out.part m).1
    have HNM : Hid (0 < m → (stateH (l.take m)).next = ((m + 1 : Nat) : Int)) := fun hp => by
      rw [state_cons (fun e => by have := congrArg List.length e; rw [List.length_take, Nat.min_eq_left hml2] at this; simp at this; omega)]
      simp only [List.length_take]
      rw [Nat.min_eq_left hml2]
    go_wp2_with fail
    refine HKM.out.mono ?_
    rintro x w4 ⟨g, j, k, T, q, F, rfl, o4, hb, b4⟩
    obtain ⟨rfl, rfl, rfl⟩ := bld_one (.inl ⟨HOM.out, rfl, rfl, rfl⟩ : BldEnd (l.take m) (stateH (l.take m)) 0 0) hb
    obtain ⟨ga', gc', rfl⟩ := o4.read.g.slice
    obtain ⟨ja', jc', rfl⟩ := o4.read.j.slice
    obtain ⟨ka', kc', rfl⟩ := o4.read.c.slice
    have B4 := Lib.hid (B3.out.trans (b4.mono B3.out.size))
    have R4 := Lib.hid (R3.out.below b4)
    have T4 := Lib.hid o4.read
    have HX4 := Lib.hid (HX3.out.later b4)
    have HB34 := Lib.hid b4
    clear o4 hb b4 HKM hr hm2 hm3 hm4 hw1 hw2 hne hio
    generalize hT : stateH (l.take m) = T at *
    have HTS := Lib.hid hT
    clear hT
    unfold StS.val'
    go_upto_region 11 with (fail)
    obtain ⟨W5, hW5, b5, X5, -⟩ := stBoxed w4 (.slice ga' T.prog.steps.length gc') (.slice ja' T.jobs.length jc') (.slice ka' T.clocks.length kc') T
    rw [hW5]
    have B5 := Lib.hid (B4.out.trans (b5.mono B4.out.size))
    have HB35 := Lib.hid (HB34.out.trans (b5.mono HB34.out.size))
    have HTB : Hid (W3.heap.size ≤ w4.heap.size) := HB34.out.size
    have R5 := Lib.hid (R4.out.below b5)
    have T5 := Lib.hid (T4.out.below b5)
    have HX5 := Lib.hid (HX4.out.later b5)
    have TX5 := Lib.hid X5
    clear hW5 b5 X5 R4 T4 HX4
    have hz2 := (block_cell TX5.out.cells 2).trans rfl
    have hz3 := (block_cell TX5.out.cells 3).trans rfl
    generalize w4.heap.size = tb at *
    have hnx : (0 < m → (T.next != (m : Int) + 1) = false) := fun hp => by
      have := HNM.out hp
      rw [this]
      simp
    have hwm : IntKind.i64.wrap ((m : Int) + 1) = (m : Int) + 1 := IntWalk.i64_in _ ⟨by omega, by omega⟩
    have HTB5 : Hid (Below W3.heap.size W3 W5) := HB35.out
    refine (Nat.eq_zero_or_pos m).elim (fun hmp => ?zz) (fun hmp => ?pp)
    case' zz =>
      have g2 : ¬ (0 : Int) < (m : Int) := by omega
      go_upto_region 13 with (fail)
    case' pp =>
      have g1 := hnx hmp
      have g2 : (0 : Int) < (m : Int) := by omega
      go_upto_region 13 with (fail)
      clear g1
    all_goals
      obtain ⟨A8, C8, hcut8, hcell8⟩ := evs_cut H.out hc hml2
      have HCL := Lib.hid hcell8
      clear hcell8 hz2 hz3 hnx hwm g2 hmp
      go_wp2
      clear hcut8
      go_loopw [13, 84] (fun fv iv wr => ∃ k : Nat, k ≤ l.length - m ∧ iv = .int .i64 (k : Int) ∧ fv = .int .i64 0 ∧ Hid (Below W3.heap.size W3 wr ∧ ∃ ga ja ka gc jc kc, StBox wr tb (.slice ga (stateH (l.take (m + k))).prog.steps.length gc) (.slice ja (stateH (l.take (m + k))).jobs.length jc) (.slice ka (stateH (l.take (m + k))).clocks.length kc) (stateH (l.take (m + k))) ∧ ReadSt wr (.slice ga (stateH (l.take (m + k))).prog.steps.length gc) (.slice ja (stateH (l.take (m + k))).jobs.length jc) (.slice ka (stateH (l.take (m + k))).clocks.length kc) (stateH (l.take (m + k))))) (fun _ iv _ => (l.length - m) - (intOf iv).toNat)
      case atStart =>
        refine ⟨0, Nat.zero_le _, rfl, rfl, HTB5.out, ga', ja', ka', gc', jc', kc', ?_⟩
        rw [Nat.add_zero, HTS.out]
        exact ⟨TX5.out, T5.out⟩
      case round =>
        obtain ⟨k, hk, rfl, rfl, HI⟩ := hrel
        clear T5 TX5 R5 HX5
        obtain ⟨HIW, ga2, ja2, ka2, gc2, jc2, kc2, hbox, hread⟩ := HI.out
        have HW := Lib.hid HIW
        have HBX := Lib.hid hbox
        have HRD := Lib.hid hread
        clear HI HIW hbox hread
        have HWW : Hid (Below w.heap.size w wr) := B3.out.trans (HW.out.mono B3.out.size)
        by_cases hlt : k < l.length - m
        · have hi1 : (0 : Int) ≤ (k : Int) := Int.natCast_nonneg _
          have hi2 : (k : Int) < ((l.length - m : Nat) : Int) := by omega
          have hmes : (l.length - m) - (intOf (.int .i64 ((k : Int) + 1))).toNat < (l.length - m) - (intOf (.int .i64 (k : Int))).toNat := by simp [intOf]; omega
          have hmk : m + k < l.length := by omega
          obtain ⟨b, o, rfl, hcx⟩ := HCL.out k hmk
          have hgx : l.getD (m + k) EvS.zero = l[m + k] := by simp [List.getD, List.getElem?_eq_getElem hmk]
          rw [hgx] at hcx
          have q0 := hcx wr HWW.out 0 _ rfl
          have q1 := hcx wr HWW.out 1 _ rfl
          have q2 := hcx wr HWW.out 2 _ rfl
          have q3 := hcx wr HWW.out 3 _ rfl
          have q4 := hcx wr HWW.out 4 _ rfl
          have q5 := hcx wr HWW.out 5 _ rfl
          have q6 := hcx wr HWW.out 6 _ rfl
          have q7 := hcx wr HWW.out 7 _ rfl
          simp only [Nat.add_zero] at q0
          have hpt := (HOK.out.part (m + k)).2 hmk
          have htk : l.take (m + k) ++ [l[m + k]] = l.take (m + (k + 1)) := by rw [← Nat.add_assoc, List.take_succ_eq_append_getElem hmk]
          have hzx := HZ.out l[m + k] (List.getElem_mem hmk)
          have HAP := Lib.hid (fun (wx : World) (t : Below wr.heap.size wr wx) => K.apply (w := wx) (l.take (m + k)) l[m + k] (HOK.out.part (m + k)).1 (HRD.out.below t) hzx)
          simp only [hpt, htk] at HAP
          clear hpt htk hcx hgx hzx
          generalize stateH (l.take (m + k)) = T at *
          generalize hT2 : stateH (l.take (m + (k + 1))) = T2 at *
          generalize l[m + k] = x at *
          go_upto_region 16 with (fail)
          obtain ⟨W6, hW6, b6, X6, hs6⟩ := evBoxed wr x
          rw [hW6]
          have hbx6 := (HBX.out.later b6).cells
          have t0 := (block_cell hbx6 0).trans rfl
          have t1 := (block_cell hbx6 1).trans rfl
          have t2 := (block_cell hbx6 2).trans rfl
          have t3 := (block_cell hbx6 3).trans rfl
          have t4 := (block_cell hbx6 4).trans rfl
          have t5 := (block_cell hbx6 5).trans rfl
          have t6 := (block_cell hbx6 6).trans rfl
          have t7 := (block_cell hbx6 7).trans rfl
          have t8 := (block_cell hbx6 8).trans rfl
          have t9 := (block_cell hbx6 9).trans rfl
          have t10 := (block_cell hbx6 10).trans rfl
          have t11 := (block_cell hbx6 11).trans rfl
          obtain ⟨c0, c1, c2, c3, c4, c5, c6, c7⟩ := X6.c
          have HA6 := Lib.hid (HAP.out W6 b6)
          unfold StS.val' EvS.val' at HA6
          have HB6 := Lib.hid (HW.out.trans (b6.mono HW.out.size))
          have HBX6 := Lib.hid (HBX.out.later b6)
          have HTL : Hid (tb < W6.heap.size) := (HBX.out.later b6).lt
          clear hW6 b6 X6 hs6 hbx6 q0 q1 q2 q3 q4 q5 q6 q7 HAP HBX HRD
          generalize wr.heap.size = xb at *
          go_wp2_with fail
          refine HA6.out.mono ?_
          rintro x7 w7 ⟨g', j', k', T3, E2, rfl, o7, hE2, hT3, -, b7⟩
          subst hE2
          obtain rfl := hT3 rfl
          obtain ⟨ga3, gc3, rfl⟩ := o7.read.g.slice
          obtain ⟨ja3, jc3, rfl⟩ := o7.read.j.slice
          obtain ⟨ka3, kc3, rfl⟩ := o7.read.c.slice
          have O7 := Lib.hid o7
          have B7 := Lib.hid b7
          have HBX7 := Lib.hid (HBX6.out.later b7)
          clear o7 b7 HA6 t0 t1 t2 t3 t4 t5 t6 t7 t8 t9 t10 t11 c0 c1 c2 c3 c4 c5 c6 c7
          have hbx7 := HBX7.out.cells
          have t0 := (block_cell hbx7 0).trans rfl
          have t1 := (block_cell hbx7 1).trans rfl
          have t2 := (block_cell hbx7 2).trans rfl
          have t3 := (block_cell hbx7 3).trans rfl
          have t4 := (block_cell hbx7 4).trans rfl
          have t5 := (block_cell hbx7 5).trans rfl
          have t6 := (block_cell hbx7 6).trans rfl
          have t7 := (block_cell hbx7 7).trans rfl
          have t8 := (block_cell hbx7 8).trans rfl
          have t9 := (block_cell hbx7 9).trans rfl
          have t10 := (block_cell hbx7 10).trans rfl
          have t11 := (block_cell hbx7 11).trans rfl
          have f0 := block_free hbx7 0
          have f1 := block_free hbx7 1
          have f2 := block_free hbx7 2
          have f3 := block_free hbx7 3
          have f4 := block_free hbx7 4
          have f5 := block_free hbx7 5
          have f6 := block_free hbx7 6
          have f7 := block_free hbx7 7
          have f8 := block_free hbx7 8
          have f9 := block_free hbx7 9
          have f10 := block_free hbx7 10
          have f11 := block_free hbx7 11
          clear hbx7
          go_wp2
          have HNB : Hid (Below W3.heap.size W3 ((((((((((((w7.setCell ⟨tb, 0, none⟩ (.slice ga3 T3.prog.steps.length gc3)).setCell ⟨tb, 1, none⟩ (.int .i64 T3.prog.limit)).setCell ⟨tb, 2, none⟩ (.int .i64 T3.status)).setCell ⟨tb, 3, none⟩ (.int .i64 T3.next)).setCell ⟨tb, 4, none⟩ (.int .i64 T3.began)).setCell ⟨tb, 5, none⟩ (.int .i64 T3.asked)).setCell ⟨tb, 6, none⟩ (.int .i64 T3.taken)).setCell ⟨tb, 7, none⟩ (.bool T3.fresh)).setCell ⟨tb, 8, none⟩ (.slice ja3 T3.jobs.length jc3)).setCell ⟨tb, 9, none⟩ (.slice ka3 T3.clocks.length kc3)).setCell ⟨tb, 10, none⟩ (.bool T3.cancel)).setCell ⟨tb, 11, none⟩ (.bool T3.overdue))) := (setSt w7 tb _ _ _ _ _ _ _ _ _ _ _ _).2 _ _ (HB6.out.trans (B7.out.mono HB6.out.size)) HTB.out
          have HNX : Hid (StBox _ tb (.slice ga3 T3.prog.steps.length gc3) (.slice ja3 T3.jobs.length jc3) (.slice ka3 T3.clocks.length kc3) T3) := setSt_box HBX7.out.cells (.slice ga3 T3.prog.steps.length gc3) (.int .i64 T3.prog.limit) (.int .i64 T3.status) (.int .i64 T3.next) (.int .i64 T3.began) (.int .i64 T3.asked) (.int .i64 T3.taken) (.bool T3.fresh) (.slice ja3 T3.jobs.length jc3) (.slice ka3 T3.clocks.length kc3) (.bool T3.cancel) (.bool T3.overdue)
          have HNR : Hid (ReadSt _ (.slice ga3 T3.prog.steps.length gc3) (.slice ja3 T3.jobs.length jc3) (.slice ka3 T3.clocks.length kc3) T3) := ⟨O7.out.read.g.far (setSt w7 tb (.slice ga3 T3.prog.steps.length gc3) (.int .i64 T3.prog.limit) (.int .i64 T3.status) (.int .i64 T3.next) (.int .i64 T3.began) (.int .i64 T3.asked) (.int .i64 T3.taken) (.bool T3.fresh) (.slice ja3 T3.jobs.length jc3) (.slice ka3 T3.clocks.length kc3) (.bool T3.cancel) (.bool T3.overdue)).1 HBX7.out (arr_text _ _ _ _ _ _ _ _ _ _), O7.out.read.j.far (fun q hq => by have := (O7.out.oj.2.1 q hq).1; have := HTL.out; omega) (setSt w7 tb (.slice ga3 T3.prog.steps.length gc3) (.int .i64 T3.prog.limit) (.int .i64 T3.status) (.int .i64 T3.next) (.int .i64 T3.began) (.int .i64 T3.asked) (.int .i64 T3.taken) (.bool T3.fresh) (.slice ja3 T3.jobs.length jc3) (.slice ka3 T3.clocks.length kc3) (.bool T3.cancel) (.bool T3.overdue)).1, O7.out.read.c.far (fun q hq => by have := (O7.out.ok.2.1 q hq).1; have := HTL.out; omega) (setSt w7 tb (.slice ga3 T3.prog.steps.length gc3) (.int .i64 T3.prog.limit) (.int .i64 T3.status) (.int .i64 T3.next) (.int .i64 T3.began) (.int .i64 T3.asked) (.int .i64 T3.taken) (.bool T3.fresh) (.slice ja3 T3.jobs.length jc3) (.slice ka3 T3.clocks.length kc3) (.bool T3.cancel) (.bool T3.overdue)).1⟩
          clear t0 t1 t2 t3 t4 t5 t6 t7 t8 t9 t10 t11 f0 f1 f2 f3 f4 f5 f6 f7 f8 f9 f10 f11
          go_roundw
          case rel => exact ⟨k + 1, by omega, by go_num, rfl, HNB.out, by rw [hT2]; exact ⟨ga3, ja3, ka3, gc3, jc3, kc3, HNX.out, HNR.out⟩⟩
          case measure => exact hmes
        · obtain rfl : k = l.length - m := by omega
          have hml4 : m + (l.length - m) = l.length := by omega
          have HBX2 : Hid (StBox wr tb (.slice ga2 (stateH l).prog.steps.length gc2) (.slice ja2 (stateH l).jobs.length jc2) (.slice ka2 (stateH l).clocks.length kc2) (stateH l)) := by have := HBX.out; rw [hml4, List.take_length] at this; exact this
          have HRD2 : Hid (ReadSt wr (.slice ga2 (stateH l).prog.steps.length gc2) (.slice ja2 (stateH l).jobs.length jc2) (.slice ka2 (stateH l).clocks.length kc2) (stateH l)) := by have := HRD.out; rw [hml4, List.take_length] at this; exact this
          clear HBX HRD hml4 HCL HTS HNM
          have hS := HSS.out
          clear HSS
          subst hS
          generalize stateH l = S at *
          have hll : ¬ ((l.length - m : Nat) : Int) < ((l.length - m : Nat) : Int) := by omega
          go_wp2
          clear hll
          go_loopw [99] (fun iv wq => ∃ q : Nat, q ≤ l.length ∧ iv = .int .i64 (q : Int) ∧ Hid (Below wr.heap.size wr wq)) (fun iv _ => l.length - (intOf iv).toNat)
          case atStart => exact ⟨0, Nat.zero_le _, rfl, Below.refl _ _⟩
          case round =>
            obtain ⟨q, hq, rfl, HQ⟩ := hrel
            by_cases hlt2 : q < l.length
            · have hmes : l.length - (intOf (.int .i64 ((q : Int) + 1))).toNat < l.length - (intOf (.int .i64 (q : Int))).toNat := by simp [intOf]; omega
              have hi1 : (0 : Int) ≤ (q : Int) := Int.natCast_nonneg _
              have hi2 : (q : Int) < (l.length : Int) := by omega
              obtain ⟨b, o, rfl, q0, q1, q2, q3, q4, q5, q6, q7, -⟩ := (H.out.below (HWW.out.trans (HQ.out.mono HWW.out.size))).at hlt2
              have hid := (HOK.out.ev q hlt2).1
              generalize l[q] = x at *
              have gid : (x.id != (q : Int) + 1) = false := by rw [hid]; simp
              have hwq : IntKind.i64.wrap ((q : Int) + 1) = (q : Int) + 1 := IntWalk.i64_in _ ⟨by omega, by omega⟩
              clear hid
              go_upto_region 23 with (fail)
              obtain ⟨W9, hW9, b9, X9, -⟩ := evBoxed wr x
              rw [hW9]
              have HQ9 := Lib.hid (HQ.out.trans (b9.mono HQ.out.size))
              obtain ⟨c0, -⟩ := X9.c
              clear hW9 b9 X9 q0 q1 q2 q3 q4 q5 q6 q7
              go_wp2
              go_roundw
              case rel => exact ⟨q + 1, by omega, by go_num, HQ9.out⟩
              case measure => exact hmes
            · obtain rfl : q = l.length := by omega
              have hll2 : ¬ (l.length : Int) < (l.length : Int) := by omega
              have HSA := Lib.hid (rsame14_any S S (R3.out.below (HW.out.trans (HQ.out.mono HW.out.size))) (HRD2.out.below HQ.out))
              have hx := (HX3.out.later (HW.out.trans (HQ.out.mono HW.out.size))).cells
              have hy := (HBX2.out.later HQ.out).cells
              rw [sameSt_refl] at HSA
              unfold StS.val' at HSA
              have HQW := Lib.hid (HWW.out.trans (HQ.out.mono HWW.out.size))
              have s0 := (block_cell hx 0).trans rfl
              have s1 := (block_cell hx 1).trans rfl
              have s2 := (block_cell hx 2).trans rfl
              have s3 := (block_cell hx 3).trans rfl
              have s4 := (block_cell hx 4).trans rfl
              have s5 := (block_cell hx 5).trans rfl
              have s6 := (block_cell hx 6).trans rfl
              have s7 := (block_cell hx 7).trans rfl
              have s8 := (block_cell hx 8).trans rfl
              have s9 := (block_cell hx 9).trans rfl
              have s10 := (block_cell hx 10).trans rfl
              have s11 := (block_cell hx 11).trans rfl
              have t0 := (block_cell hy 0).trans rfl
              have t1 := (block_cell hy 1).trans rfl
              have t2 := (block_cell hy 2).trans rfl
              have t3 := (block_cell hy 3).trans rfl
              have t4 := (block_cell hy 4).trans rfl
              have t5 := (block_cell hy 5).trans rfl
              have t6 := (block_cell hy 6).trans rfl
              have t7 := (block_cell hy 7).trans rfl
              have t8 := (block_cell hy 8).trans rfl
              have t9 := (block_cell hy 9).trans rfl
              have t10 := (block_cell hy 10).trans rfl
              have t11 := (block_cell hy 11).trans rfl
              clear hx hy
              go_wp2_with fail
              refine HSA.out.mono ?_
              rintro x9 w9 ⟨rfl, b9⟩
              have B9 := Lib.hid (HQW.out.trans (b9.mono HQW.out.size))
              clear b9
              go_wp2
              go_ret
              exact ⟨rfl, B9.out⟩
  · obtain ⟨hi, hoi⟩ : i < l.length ∧ OkH (l.take i) := by
      rcases HBE.out with ⟨_, _, _, h4⟩ | ⟨h1, h2, _⟩
      · exact (hE h4).elim
      · exact ⟨h1, h2⟩
    have g0 : ((E : Int) != 0) = true := by rw [bne_iff_ne]; omega
    have hi1 : (0 : Int) ≤ (i : Int) := Int.natCast_nonneg _
    have hi2 : ¬ (i : Int) < 0 := by omega
    have hi3 : ¬ (l.length : Int) ≤ (i : Int) := by omega
    have hi4 : (i : Int) ≤ (c : Int) := by omega
    have HKC := Lib.hid (HKP.out W3 i (by omega) B3.out)
    have HOI := Lib.hid hoi
    clear hE hoi
    go_wp2_with fail
    refine HKC.out.mono ?_
    rintro x w4 ⟨g, j, k, T, q, F, rfl, o4, hb, b4⟩
    obtain ⟨rfl, rfl, rfl⟩ := bld_one (.inl ⟨HOI.out, rfl, rfl, rfl⟩ : BldEnd (l.take i) (stateH (l.take i)) 0 0) hb
    obtain ⟨ga', gc', rfl⟩ := o4.read.g.slice
    obtain ⟨ja', jc', rfl⟩ := o4.read.j.slice
    obtain ⟨ka', kc', rfl⟩ := o4.read.c.slice
    have B4 := Lib.hid (B3.out.trans (b4.mono B3.out.size))
    clear o4 hb b4
    generalize stateH (l.take i) = T at *
    unfold StS.val'
    go_upto_region 8 with (fail)
    obtain ⟨W5, hW5, b5, X5, -⟩ := stBoxed w4 (.slice ga' T.prog.steps.length gc') (.slice ja' T.jobs.length jc') (.slice ka' T.clocks.length kc') T
    rw [hW5]
    have B5 := Lib.hid (B4.out.trans (b5.mono B4.out.size))
    clear hW5 b5 X5
    go_wp2
    go_ret
    exact ⟨rfl, B5.out⟩
end Go.Proofs.Ytlkfpeefjpmmfaa

/- Layer 14's laws, whatever the program: the walk of StateApplies. -/
import Derived.Test.YtlkfpeefjpmmfaaJ48
import Derived.Test.YtlkfpeefjpmmfaaJ22
import Derived.Deep.RegionHeld3
namespace Go.Proofs.Ytlkfpeefjpmmfaa
open Go.RowKit
set_option linter.unusedVariables false

theorem ReadE.src {w : World} {a : Option Addr} {c : Nat} {l : List EvS} (h : ReadE w (.slice a l.length c) l) (hn : a = none → c = 0 ∧ l = []) : SrcRow w (.slice a l.length c) l.length 8 (rowE l) := by
  have hlen : (rowE l).length = l.length * 8 := by
    clear h hn
    induction l with
    | nil => rfl
    | cons p r ih =>
      have e : rowE (p :: r) = p.cells ++ rowE r := rfl
      rw [e, List.length_append, ih, List.length_cons]
      have : p.cells.length = 8 := rfl
      omega
  refine ⟨hlen, fun u hu => ?_, ?_⟩
  · unfold rowE at hu
    obtain ⟨x, _, hx⟩ := List.mem_flatMap.1 hu
    exact EvS.one x u hx
  · obtain ⟨h1, h2, a', c', hv, h3⟩ := h
    injection hv with e1 _ e3
    subst e1 e3
    cases a with
    | none =>
      obtain ⟨rfl, rfl⟩ := hn rfl
      exact .inl ⟨rfl, rfl⟩
    | some ad =>
      refine .inr ⟨ad, c, rfl, fun j u hu => ?_⟩
      rcases h3 with h3 | ⟨b, o, e, h3⟩
      · subst h3; simp [rowE] at hu
      · injection e with e
        subst e
        have hj : j < l.length * 8 := by rw [← hlen]; exact (List.getElem?_eq_some_iff.1 hu).1
        have hi : j / 8 < l.length := by omega
        have hm : j % 8 < 8 := Nat.mod_lt _ (by omega)
        have hc : ∃ u', l[j / 8].cells[j % 8]? = some u' := by
          have hl : l[j / 8].cells.length = 8 := rfl
          exact ⟨_, List.getElem?_eq_getElem (by rw [hl]; exact hm)⟩
        obtain ⟨u', hu'⟩ := hc
        have h4 := rowE_at l (j / 8) hi (j % 8) u' hu'
        have hj2 : j / 8 * 8 + j % 8 = j := by omega
        rw [hj2, hu] at h4
        injection h4 with h4
        subst h4
        have h5 := h3 (j / 8) hi (j % 8) u hu'
        rw [Addr.add_lit]
        rw [Nat.add_assoc, hj2] at h5
        exact h5
theorem SrcRow.below {w w' : World} {x : Value} {m sz : Nat} {news : List Value} (h : SrcRow w x m sz news) (t : Below w.heap.size w w') : SrcRow w' x m sz news := by
  refine ⟨h.len, h.one, ?_⟩
  rcases h.row with h1 | ⟨ad, c, h1, h2⟩
  · exact .inl h1
  · exact .inr ⟨ad, c, h1, fun j u hu => (t.cell (World.block_lt_of_cell? w (ad.add j) (h2 j u hu))).trans (h2 j u hu)⟩
theorem readE_snoc {l : List EvS} {e : EvS} {w : World} {v : Value} (h : w.ownsRow 0 39 8 v (l.length + 1) (rowE l ++ e.cells)) (hz : ∀ x ∈ l, x.data.size ≤ 140737488351232) (he : e.data.size ≤ 140737488351232) : ReadE w v (l ++ [e]) := by
  refine ReadE.own (base := 0) (by rw [List.length_append, List.length_singleton, rowE_snoc]; exact h) fun x hx => ?_
  unfold maxLen
  rcases List.mem_append.1 hx with hx | hx
  · have := hz x hx; omega
  · rw [List.mem_singleton.1 hx]; omega

set_option maxHeartbeats 1000000 in
set_option maxRecDepth 100000 in
theorem applies14_walk (K : StateK) (a : Option Addr) (c : Nat) (l : List EvS) (e : EvS) (w : World) (h : ReadE w (.slice a l.length c) l) (hc : l.length ≤ c) (hn : a = none → c = 0 ∧ l = []) (hz : ∀ x ∈ l, x.data.size ≤ 140737488351232) (he : e.data.size ≤ 140737488351232) :
    Calls Try.prog 4 #[.slice a l.length c, e.val'] w fun x w' => x = .returned (.bool true) ∧ Below w.heap.size w w' := by
  obtain ⟨i0, hi0, hz0, hz1, hz2⟩ := info_parts infoEv
  have HK : Hid (∀ wx, Below w.heap.size w wx → Calls Try.prog 9 #[.slice a l.length c] wx fun x w' => ∃ g j k S i E, x = .returned (.tuple #[S.val' g j k, .int .i64 (i : Nat), .int .i64 (E : Nat)]) ∧ OwnSt wx.heap.size w' g j k S ∧ BldEnd l S i E ∧ Below wx.heap.size wx w') := fun wx t => K.build l (h.below t) hc hz
  have HR : Hid (∀ wx, Below w.heap.size w wx → Calls Try.prog 10 #[.slice a l.length c] wx fun x w' => ∃ g j k S i E, x = .returned (.tuple #[S.val' g j k, .int .i64 (i : Nat), .int .i64 (E : Nat)]) ∧ ReadSt w' g j k S ∧ BldEnd l S i E ∧ Below wx.heap.size wx w') := fun wx t => rbuild_any (h.below t) hc hz
  have HCM : Hid (OkH l → ∀ wx, Below w.heap.size w wx → Calls Try.prog 13 #[.slice a l.length c, e.val'] wx fun x w' => x = .returned (.int .i64 (errS (stateH l) e : Nat)) ∧ Below wx.heap.size wx w') := fun ho wx t => rcomes_any (h.below t) ho e he
  have HSRC : Hid (∀ wx, Below w.heap.size w wx → SrcRow wx (.slice a l.length c) l.length 8 (rowE l)) := fun wx t => (h.below t).src hn
  have HZZ : Hid ((∀ x ∈ l, x.data.size ≤ 140737488351232) ∧ e.data.size ≤ 140737488351232) := ⟨hz, he⟩
  have hml : l.length ≤ 9223372036854775807 := by have := h.1; unfold maxLen at this; omega
  obtain ⟨we, hwe, be, xe, hse⟩ := evBoxed w e
  have BE := Lib.hid be
  have XE := Lib.hid xe
  clear h hz be xe hse
  show Calls Try.prog 4 #[.slice a l.length c, .agg #[.int .i64 e.id, .int .i64 e.kind, .int .i64 e.tick, .int .i64 e.ref, .int .i64 e.step, .int .i64 e.tryN, .bool e.undo, .string e.data]] w _
  go_enter Try.func4, Try.ntmps4
  go_wp2_with fail
  refine (awake14_any K _).mono ?_
  rintro x w1 ⟨rfl, b1⟩
  have B1 := Lib.hid (BE.out.trans (b1.mono BE.out.size))
  have X1 := Lib.hid (XE.out.later b1)
  clear b1 hwe BE XE
  by_cases h60 : (60 : Int) < (l.length : Int)
  · go_wp2
    go_ret
    exact ⟨rfl, B1.out⟩
  · go_wp2_with fail
    refine (HK.out _ B1.out).mono ?_
    rintro x w2 ⟨g, j, k, S, i, E, rfl, o2, hb, b2⟩
    obtain ⟨ga, gc, rfl⟩ := o2.read.g.slice
    obtain ⟨ja, jc, rfl⟩ := o2.read.j.slice
    obtain ⟨ka, kc, rfl⟩ := o2.read.c.slice
    have B2 := Lib.hid (B1.out.trans (b2.mono B1.out.size))
    have X2 := Lib.hid (X1.out.later b2)
    have R2 := Lib.hid o2.read
    have HBE := Lib.hid hb
    clear o2 hb b2 HK X1
    unfold StS.val'
    go_upto_region 6 with (fail)
    obtain ⟨W3, hW3, b3, X3, -⟩ := stBoxed w2 (.slice ga S.prog.steps.length gc) (.slice ja S.jobs.length jc) (.slice ka S.clocks.length kc) S
    rw [hW3]
    have B3 := Lib.hid (B2.out.trans (b3.mono B2.out.size))
    have R3 := Lib.hid (R2.out.below b3)
    have HX3 := Lib.hid X3
    have XE3 := Lib.hid (X2.out.later b3)
    clear hW3 b3 X3 R2 X2
    by_cases hE : E = 0
    · have hok : OkH l ∧ S = stateH l := by
        rcases HBE.out with ⟨h1, h2, _⟩ | ⟨_, _, h2, h3, _⟩
        · exact ⟨h1, h2⟩
        · exact (h3 hE).elim
      obtain ⟨ho, hS⟩ := hok
      subst hE
      have HOK := Lib.hid ho
      have hAP := K.apply (w := W3) (g := .slice ga S.prog.steps.length gc) (j := .slice ja S.jobs.length jc) (k := .slice ka S.clocks.length kc) l e ho (by rw [← hS]; exact R3.out) he
      have HCC := Lib.hid (HCM.out ho)
      have HSS := Lib.hid hS
      rw [← hS] at hAP HCC
      have HAP := Lib.hid hAP
      clear hAP hS ho HCM
      unfold StS.val' EvS.val' at HAP
      unfold EvS.val' at HCC
      generalize hER : errS S e = ER at *
      generalize w2.heap.size = sb at *
      have hx3 := HX3.out.cells
      have s0 := (block_cell hx3 0).trans rfl
      have s1 := (block_cell hx3 1).trans rfl
      have s2 := (block_cell hx3 2).trans rfl
      have s3 := (block_cell hx3 3).trans rfl
      have s4 := (block_cell hx3 4).trans rfl
      have s5 := (block_cell hx3 5).trans rfl
      have s6 := (block_cell hx3 6).trans rfl
      have s7 := (block_cell hx3 7).trans rfl
      have s8 := (block_cell hx3 8).trans rfl
      have s9 := (block_cell hx3 9).trans rfl
      have s10 := (block_cell hx3 10).trans rfl
      have s11 := (block_cell hx3 11).trans rfl
      obtain ⟨c0, c1, c2, c3, c4, c5, c6, c7⟩ := XE3.out.c
      clear hx3
      go_wp2_with fail
      refine HAP.out.mono ?_
      rintro x w4 ⟨g', j', k', T, E2, rfl, o4, hE2, hT1, hT2, b4⟩
      subst hE2
      obtain ⟨ta, tc, rfl⟩ := o4.read.g.slice
      obtain ⟨tja, tjc, rfl⟩ := o4.read.j.slice
      obtain ⟨tka, tkc, rfl⟩ := o4.read.c.slice
      have B4 := Lib.hid (B3.out.trans (b4.mono B3.out.size))
      have XE4 := Lib.hid (XE3.out.later b4)
      have HX4 := Lib.hid (HX3.out.later b4)
      have R4 := Lib.hid (R3.out.below b4)
      have T4 := Lib.hid o4.read
      have HT1 := Lib.hid hT1
      have HT2 := Lib.hid hT2
      clear o4 b4 hT1 hT2 HAP s0 s1 s2 s3 s4 s5 s6 s7 s8 s9 s10 s11 c0 c1 c2 c3 c4 c5 c6 c7 HX3 XE3 R3
      go_upto_region 9 with (fail)
      obtain ⟨W5, hW5, b5, X5, -⟩ := stBoxed w4 (.slice ta T.prog.steps.length tc) (.slice tja T.jobs.length tjc) (.slice tka T.clocks.length tkc) T
      rw [hW5]
      have B5 := Lib.hid (B4.out.trans (b5.mono B4.out.size))
      have XE5 := Lib.hid (XE4.out.later b5)
      have HX5 := Lib.hid (HX4.out.later b5)
      have R5 := Lib.hid (R4.out.below b5)
      have T5 := Lib.hid (T4.out.below b5)
      have TX5 := Lib.hid X5
      clear hW5 b5 X5 XE4 HX4 R4 T4
      generalize w4.heap.size = tb at *
      obtain ⟨c0, c1, c2, c3, c4, c5, c6, c7⟩ := XE5.out.c
      go_wp2_with fail
      refine (HCC.out _ B5.out).mono ?_
      rintro x w6 ⟨rfl, b6⟩
      have B6 := Lib.hid (B5.out.trans (b6.mono B5.out.size))
      have XE6 := Lib.hid (XE5.out.later b6)
      have HX6 := Lib.hid (HX5.out.later b6)
      have R6 := Lib.hid (R5.out.below b6)
      have T6 := Lib.hid (T5.out.below b6)
      have TX6 := Lib.hid (TX5.out.later b6)
      clear b6 c0 c1 c2 c3 c4 c5 c6 c7 XE5 HX5 R5 T5 TX5 HCC
      go_wp2_with fail
      refine (HR.out _ B6.out).mono ?_
      rintro x w7 ⟨g', j', k', U, i', E', rfl, r7, hb, b7⟩
      obtain ⟨rfl, rfl, rfl⟩ := bld_one HBE.out hb
      obtain ⟨ua, uc, rfl⟩ := r7.g.slice
      obtain ⟨uja, ujc, rfl⟩ := r7.j.slice
      obtain ⟨uka, ukc, rfl⟩ := r7.c.slice
      have B7 := Lib.hid (B6.out.trans (b7.mono B6.out.size))
      have XE7 := Lib.hid (XE6.out.later b7)
      have HX7 := Lib.hid (HX6.out.later b7)
      have R7 := Lib.hid (R6.out.below b7)
      have T7 := Lib.hid (T6.out.below b7)
      have TX7 := Lib.hid (TX6.out.later b7)
      have U7 := Lib.hid r7
      clear r7 hb b7 XE6 HX6 R6 T6 TX6 HR HBE
      unfold StS.val'
      go_upto_region 13 with (fail)
      obtain ⟨W8, hW8, b8, X8, -⟩ := stBoxed w7 (.slice ua U.prog.steps.length uc) (.slice uja U.jobs.length ujc) (.slice uka U.clocks.length ukc) U
      rw [hW8]
      have B8 := Lib.hid (B7.out.trans (b8.mono B7.out.size))
      have XE8 := Lib.hid (XE7.out.later b8)
      have T8 := Lib.hid (T7.out.below b8)
      have TX8 := Lib.hid (TX7.out.later b8)
      have HSA := Lib.hid (rsame14_any U U (R7.out.below b8) (U7.out.below b8))
      have hx := (HX7.out.later b8).cells
      have hy := X8.cells
      clear hW8 b8 X8 XE7 HX7 R7 T7 TX7 U7
      have s0 := (block_cell hx 0).trans rfl
      have s1 := (block_cell hx 1).trans rfl
      have s2 := (block_cell hx 2).trans rfl
      have s3 := (block_cell hx 3).trans rfl
      have s4 := (block_cell hx 4).trans rfl
      have s5 := (block_cell hx 5).trans rfl
      have s6 := (block_cell hx 6).trans rfl
      have s7 := (block_cell hx 7).trans rfl
      have s8 := (block_cell hx 8).trans rfl
      have s9 := (block_cell hx 9).trans rfl
      have s10 := (block_cell hx 10).trans rfl
      have s11 := (block_cell hx 11).trans rfl
      have t0 := (block_cell hy 0).trans rfl
      have t1 := (block_cell hy 1).trans rfl
      have t2 := (block_cell hy 2).trans rfl
      have t3 := (block_cell hy 3).trans rfl
      have t4 := (block_cell hy 4).trans rfl
      have t5 := (block_cell hy 5).trans rfl
      have t6 := (block_cell hy 6).trans rfl
      have t7 := (block_cell hy 7).trans rfl
      have t8 := (block_cell hy 8).trans rfl
      have t9 := (block_cell hy 9).trans rfl
      have t10 := (block_cell hy 10).trans rfl
      have t11 := (block_cell hy 11).trans rfl
      clear hx hy
      rw [sameSt_refl] at HSA
      unfold StS.val' at HSA
      generalize w7.heap.size = ub at *
      go_wp2_with fail
      refine HSA.out.mono ?_
      rintro x w9 ⟨rfl, b9⟩
      have B9 := Lib.hid (B8.out.trans (b9.mono B8.out.size))
      have XE9 := Lib.hid (XE8.out.later b9)
      have T9 := Lib.hid (T8.out.below b9)
      have TX9 := Lib.hid (TX8.out.later b9)
      clear b9 s0 s1 s2 s3 s4 s5 s6 s7 s8 s9 s10 s11 t0 t1 t2 t3 t4 t5 t6 t7 t8 t9 t10 t11 XE8 T8 TX8 HSA
      by_cases h0 : E2 = 0
      · have hT := HT1.out h0
        subst h0
        have HT := Lib.hid hT
        have HOK2 := Lib.hid (OkH.snoc HOK.out (by rw [← HSS.out]; exact hER))
        have HSX : Hid (∀ w', Below w9.heap.size w9 w' → (w'.cell? ⟨tb, 0, none⟩ = some (.slice ta T.prog.steps.length tc) ∧ w'.cell? ⟨tb, 1, none⟩ = some (.int .i64 T.prog.limit) ∧ w'.cell? ⟨tb, 2, none⟩ = some (.int .i64 T.status) ∧ w'.cell? ⟨tb, 3, none⟩ = some (.int .i64 T.next) ∧ w'.cell? ⟨tb, 4, none⟩ = some (.int .i64 T.began) ∧ w'.cell? ⟨tb, 5, none⟩ = some (.int .i64 T.asked) ∧ w'.cell? ⟨tb, 6, none⟩ = some (.int .i64 T.taken) ∧ w'.cell? ⟨tb, 7, none⟩ = some (.bool T.fresh) ∧ w'.cell? ⟨tb, 8, none⟩ = some (.slice tja T.jobs.length tjc) ∧ w'.cell? ⟨tb, 9, none⟩ = some (.slice tka T.clocks.length tkc) ∧ w'.cell? ⟨tb, 10, none⟩ = some (.bool T.cancel) ∧ w'.cell? ⟨tb, 11, none⟩ = some (.bool T.overdue) ∧ w'.cell? ⟨w.heap.size, 0, none⟩ = some (.int .i64 e.id) ∧ w'.cell? ⟨w.heap.size, 1, none⟩ = some (.int .i64 e.kind) ∧ w'.cell? ⟨w.heap.size, 2, none⟩ = some (.int .i64 e.tick) ∧ w'.cell? ⟨w.heap.size, 3, none⟩ = some (.int .i64 e.ref) ∧ w'.cell? ⟨w.heap.size, 4, none⟩ = some (.int .i64 e.step) ∧ w'.cell? ⟨w.heap.size, 5, none⟩ = some (.int .i64 e.tryN) ∧ w'.cell? ⟨w.heap.size, 6, none⟩ = some (.bool e.undo) ∧ w'.cell? ⟨w.heap.size, 7, none⟩ = some (.string e.data))) := fun w' t => by
          have h1 := (TX9.out.later t).cells
          obtain ⟨p0, p1, p2, p3, p4, p5, p6, p7⟩ := (XE9.out.later t).c
          refine ⟨(block_cell h1 0).trans rfl, (block_cell h1 1).trans rfl, (block_cell h1 2).trans rfl, (block_cell h1 3).trans rfl, (block_cell h1 4).trans rfl, (block_cell h1 5).trans rfl, (block_cell h1 6).trans rfl, (block_cell h1 7).trans rfl, (block_cell h1 8).trans rfl, (block_cell h1 9).trans rfl, (block_cell h1 10).trans rfl, (block_cell h1 11).trans rfl, p0, p1, p2, p3, p4, p5, p6, p7⟩
        have HBB : Hid (∀ w', Below w9.heap.size w9 w' → Below w.heap.size w w') := fun w' t => B9.out.trans (t.mono B9.out.size)
        have HST : Hid (∀ wx v, ReadE wx v (l ++ [e]) → Calls Try.prog 14 #[v] wx fun x w' => ∃ g j k, x = .returned (T.val' g j k) ∧ ReadSt w' g j k T ∧ Below wx.heap.size wx w') := fun wx v r => (rstate_any r HOK2.out).mono fun x w' h => by
          obtain ⟨g, j, k, h1, h2, -, h3⟩ := h
          rw [← HT.out] at h1 h2
          exact ⟨g, j, k, h1, h2, h3⟩
        have HSM : Hid (∀ wx g j k, Below w9.heap.size w9 wx → ReadSt wx g j k T → Calls Try.prog 11 #[.agg #[.slice ta T.prog.steps.length tc, .int .i64 T.prog.limit, .int .i64 T.status, .int .i64 T.next, .int .i64 T.began, .int .i64 T.asked, .int .i64 T.taken, .bool T.fresh, .slice tja T.jobs.length tjc, .slice tka T.clocks.length tkc, .bool T.cancel, .bool T.overdue], T.val' g j k] wx fun x w' => x = .returned (.bool true) ∧ Below wx.heap.size wx w') := fun wx g j k t r => by
          have := rsame14_any T T (T9.out.below t) r
          rw [sameSt_refl] at this
          exact this
        clear hT HT1 HT2 hER
        go_upto_region 17 with (fail)
        refine wp_region_held_drew (S := fun w' => w'.cell? ⟨tb, 0, none⟩ = some (.slice ta T.prog.steps.length tc) ∧ w'.cell? ⟨tb, 1, none⟩ = some (.int .i64 T.prog.limit) ∧ w'.cell? ⟨tb, 2, none⟩ = some (.int .i64 T.status) ∧ w'.cell? ⟨tb, 3, none⟩ = some (.int .i64 T.next) ∧ w'.cell? ⟨tb, 4, none⟩ = some (.int .i64 T.began) ∧ w'.cell? ⟨tb, 5, none⟩ = some (.int .i64 T.asked) ∧ w'.cell? ⟨tb, 6, none⟩ = some (.int .i64 T.taken) ∧ w'.cell? ⟨tb, 7, none⟩ = some (.bool T.fresh) ∧ w'.cell? ⟨tb, 8, none⟩ = some (.slice tja T.jobs.length tjc) ∧ w'.cell? ⟨tb, 9, none⟩ = some (.slice tka T.clocks.length tkc) ∧ w'.cell? ⟨tb, 10, none⟩ = some (.bool T.cancel) ∧ w'.cell? ⟨tb, 11, none⟩ = some (.bool T.overdue) ∧ w'.cell? ⟨w.heap.size, 0, none⟩ = some (.int .i64 e.id) ∧ w'.cell? ⟨w.heap.size, 1, none⟩ = some (.int .i64 e.kind) ∧ w'.cell? ⟨w.heap.size, 2, none⟩ = some (.int .i64 e.tick) ∧ w'.cell? ⟨w.heap.size, 3, none⟩ = some (.int .i64 e.ref) ∧ w'.cell? ⟨w.heap.size, 4, none⟩ = some (.int .i64 e.step) ∧ w'.cell? ⟨w.heap.size, 5, none⟩ = some (.int .i64 e.tryN) ∧ w'.cell? ⟨w.heap.size, 6, none⟩ = some (.bool e.undo) ∧ w'.cell? ⟨w.heap.size, 7, none⟩ = some (.string e.data)) (by kernel_rfl) (HSX.out _ (Below.refl _ _).drew) (fun hHeld => ?_)
        refine wpAnyH_take (i := 0) (v := ?_) rfl (by kernel_rfl) (by kernel_rfl) (by kernel_rfl) (fun _ _ _ h => h) (Or.inl ⟨by rfl, ?_⟩) (by assumption) ?_
        rotate_left
        · intro w hSw; (try dsimp only at hSw); go_simp; (try with_reducible rfl)
        try simp only [Act.put, List.setIfInBounds_toArray]
        refine wpAnyH_take (i := 1) (v := ?_) rfl (by kernel_rfl) (by kernel_rfl) (by kernel_rfl) (fun _ _ _ h => h) (Or.inl ⟨by rfl, ?_⟩) (by assumption) ?_
        rotate_left
        · intro w hSw; (try dsimp only at hSw); go_simp; (try with_reducible rfl)
        try simp only [Act.put]
        refine wpAnyH_take (i := 3) (v := ?_) rfl (by kernel_rfl) (by kernel_rfl) (by kernel_rfl) (fun _ _ _ h => h) (Or.inl ⟨by rfl, ?_⟩) (by assumption) ?_
        rotate_left
        · intro w hSw; (try dsimp only at hSw); go_simp; (try with_reducible rfl)
        try simp only [Act.put]
        refine wpAnyH_ready (rs := [2, 4]) (by kernel_rfl) (by simp) ?_
        refine AllReadyH.cons rfl (fun K hK => ?_) (AllReadyH.cons rfl (fun K hK => ?_) AllReadyH.nil)
        · skip
          refine step_app w9.drew (T := 22) (E := 39) (i := i0) (z := .agg EvS.zero.arr) (sz := 8) (bytes := 72) (v := .slice none 0 0) (n := 0) (xs := []) (xv := .slice a l.length c) (m := l.length) (news := rowE l) (by rfl) (.const (.slice none 0 0)) (.tmp 55) (by rfl) Try.underlying22 hi0 hz0 hz1 hz2 rfl (by decide) (by rfl) (World.ownsRow_nil _ 0 39 8) (by rfl) (HSRC.out _ (HBB.out _ ((Below.refl w9.heap.size w9).drew))) (by omega) (by unfold maxLen; omega) ?_
          intro b1 c1 w10 own10 g10 l10
          simp only [Nat.zero_add, List.nil_append] at own10 l10 ⊢
          have hb10 : Below w9.heap.size w9 w10 := ((Below.refl w9.heap.size w9).drew).grown g10 ((Below.refl w9.heap.size w9).drew).size (fun k hk => by simp [Value.ownBlock] at hk)
          have hl10 : ∀ k, (Value.slice b1 l.length c1).ownBlock = some k → w9.heap.size ≤ k := fun k hk => by
            rcases l10 k hk with h | h
            · simp [Value.ownBlock] at h
            · exact Nat.le_trans ((Below.refl w9.heap.size w9).drew).size h
          refine hK.out _ _ (HSX.out _ (hb10)) (fun hHeld => ?_)
          clear hK K
          try simp only [Act.put]
          refine wpAnyH_ready (rs := [4]) (by kernel_rfl) (by simp) ?_
          refine AllReadyH.cons rfl (fun K hK => ?_) AllReadyH.nil
          go_simp
          have hba := (Below.refl w10.heap.size w10).alloc (Nat.le_refl _) (.cells #[.int .i64 e.id, .int .i64 e.kind, .int .i64 e.tick, .int .i64 e.ref, .int .i64 e.step, .int .i64 e.tryN, .bool e.undo, .string e.data] 39)
          have hb11 := hb10.trans (hba.mono hb10.size)
          refine hK.out _ _ (HSX.out _ (hb11)) (fun hHeld => ?_)
          clear hK K
          try simp only [Act.put, List.setIfInBounds_toArray, List.set_cons_zero, List.set_cons_succ]
          refine wpAnyH_ready (rs := [5]) (by kernel_rfl) (by simp) ?_
          refine AllReadyH.cons rfl (fun K hK => ?_) AllReadyH.nil
          refine step_app (w10.alloc (.cells #[.int .i64 e.id, .int .i64 e.kind, .int .i64 e.tick, .int .i64 e.ref, .int .i64 e.step, .int .i64 e.tryN, .bool e.undo, .string e.data] 39)) (T := 22) (E := 39) (i := i0) (z := .agg EvS.zero.arr) (sz := 8) (bytes := 72) (v := .slice b1 l.length c1) (n := l.length) (xs := rowE l) (m := 1) (news := e.cells) (by rfl) (.tmp 56) (.tmp 58) (by rfl) Try.underlying22 hi0 hz0 hz1 hz2 rfl (by decide) (by rfl) (ownsRow_below own10 hba) (by rfl) (src_new (sz := 8) w10 #[.int .i64 e.id, .int .i64 e.kind, .int .i64 e.tick, .int .i64 e.ref, .int .i64 e.step, .int .i64 e.tryN, .bool e.undo, .string e.data] 39 rfl (EvS.one e)) (by omega) (by unfold maxLen; omega) ?_
          intro b2 c2 w12 own12 g12 l12
          have hb12 : Below w9.heap.size w9 w12 := (hb11).grown g12 (hb11).size (fun k hk => hl10 k hk)
          have hre : ReadE w12 (.slice b2 (l.length + 1) c2) (l ++ [e]) := by
            have h1 := own12
            have h2 := readE_snoc (e := e) h1 HZZ.out.1 HZZ.out.2
            exact h2
          have HRE := Lib.hid hre
          have HB12 := Lib.hid hb12
          refine hK.out _ _ (HSX.out _ (hb12)) (fun hHeld => ?_)
          clear hK K
          try simp only [Act.put, List.setIfInBounds_toArray]
          clear own12 g12 l12 hb12 hre
          refine wpAnyH_ready (rs := [6]) (by kernel_rfl) (by simp) ?_
          refine AllReadyH.cons rfl (fun K hK => ?_) AllReadyH.nil
          go_simp
          go_at_call 14
          refine (HST.out _ _ HRE.out).mono ?_
          rintro x w13 ⟨g, j, k, rfl, r13, b13⟩
          dsimp only
          have HB13 := Lib.hid (HB12.out.trans (b13.mono HB12.out.size))
          have R13 := Lib.hid r13
          clear r13 b13
          refine hK.out _ _ (HSX.out _ (HB13.out)) (fun hHeld => ?_)
          clear hK K
          try simp only [Act.put, List.setIfInBounds_toArray, List.set_cons_zero, List.set_cons_succ]
          refine wpAnyH_ready (rs := [7]) (by kernel_rfl) (by simp) ?_
          refine AllReadyH.cons rfl (fun K hK => ?_) AllReadyH.nil
          go_simp
          go_at_call 11
          refine (HSM.out _ _ _ _ HB13.out R13.out).mono ?_
          rintro x w14 ⟨rfl, b14⟩
          dsimp only
          have HB14 := Lib.hid (HB13.out.trans (b14.mono HB13.out.size))
          clear b14
          refine hK.out _ _ (HSX.out _ (HB14.out)) (fun hHeld => ?_)
          clear hK K
          try simp only [Act.put, List.setIfInBounds_toArray, List.set_cons_zero, List.set_cons_succ]
          refine wpAnyH_ready (rs := [8]) (by kernel_rfl) (by simp) ?_
          refine AllReadyH.cons rfl (fun K hK => ?_) AllReadyH.nil
          go_simp
          refine hK.out _ _ (HSX.out _ (HB14.out)) (fun _ => ?_)
          clear hK K hHeld
          try simp only [Act.put, List.setIfInBounds_toArray, List.set_cons_zero, List.set_cons_succ]
          refine wpAnyH_done (by kernel_rfl) ?_ _
          have HF := Lib.hid (HBB.out _ HB14.out)
          go_wp2
          go_ret
          exact ⟨by first | (simp; done) | (go_simp; done), HF.out⟩
        · skip
          go_simp
          have hba := (Below.refl w9.heap.size w9).alloc (Nat.le_refl _) (.cells #[.int .i64 e.id, .int .i64 e.kind, .int .i64 e.tick, .int .i64 e.ref, .int .i64 e.step, .int .i64 e.tryN, .bool e.undo, .string e.data] 39)
          refine hK.out _ _ (HSX.out _ (hba.drew)) (fun hHeld => ?_)
          clear hK K
          try simp only [Act.put, List.setIfInBounds_toArray, List.set_cons_zero, List.set_cons_succ]
          refine wpAnyH_ready (rs := [2]) (by kernel_rfl) (by simp) ?_
          refine AllReadyH.cons rfl (fun K hK => ?_) AllReadyH.nil
          refine step_app (w9.alloc (.cells #[.int .i64 e.id, .int .i64 e.kind, .int .i64 e.tick, .int .i64 e.ref, .int .i64 e.step, .int .i64 e.tryN, .bool e.undo, .string e.data] 39)).drew (T := 22) (E := 39) (i := i0) (z := .agg EvS.zero.arr) (sz := 8) (bytes := 72) (v := .slice none 0 0) (n := 0) (xs := []) (xv := .slice a l.length c) (m := l.length) (news := rowE l) (by rfl) (.const (.slice none 0 0)) (.tmp 55) (by rfl) Try.underlying22 hi0 hz0 hz1 hz2 rfl (by decide) (by rfl) (World.ownsRow_nil _ 0 39 8) (by rfl) (HSRC.out _ (HBB.out _ (hba.drew))) (by omega) (by unfold maxLen; omega) ?_
          intro b1 c1 w10 own10 g10 l10
          simp only [Nat.zero_add, List.nil_append] at own10 l10 ⊢
          have hb10 : Below w9.heap.size w9 w10 := (hba.drew).grown g10 (hba.drew).size (fun k hk => by simp [Value.ownBlock] at hk)
          have hl10 : ∀ k, (Value.slice b1 l.length c1).ownBlock = some k → w9.heap.size ≤ k := fun k hk => by
            rcases l10 k hk with h | h
            · simp [Value.ownBlock] at h
            · exact Nat.le_trans (hba.drew).size h
          have hb10' : Below (w9.alloc (.cells #[.int .i64 e.id, .int .i64 e.kind, .int .i64 e.tick, .int .i64 e.ref, .int .i64 e.step, .int .i64 e.tryN, .bool e.undo, .string e.data] 39)).heap.size (w9.alloc (.cells #[.int .i64 e.id, .int .i64 e.kind, .int .i64 e.tick, .int .i64 e.ref, .int .i64 e.step, .int .i64 e.tryN, .bool e.undo, .string e.data] 39)) w10 := ((Below.refl _ _).drew).grown g10 (Nat.le_refl _) (fun k hk => by simp [Value.ownBlock] at hk)
          refine hK.out _ _ (HSX.out _ (hb10)) (fun hHeld => ?_)
          clear hK K
          try simp only [Act.put, List.setIfInBounds_toArray]
          refine wpAnyH_ready (rs := [5]) (by kernel_rfl) (by simp) ?_
          refine AllReadyH.cons rfl (fun K hK => ?_) AllReadyH.nil
          refine step_app w10 (T := 22) (E := 39) (i := i0) (z := .agg EvS.zero.arr) (sz := 8) (bytes := 72) (v := .slice b1 l.length c1) (n := l.length) (xs := rowE l) (m := 1) (news := e.cells) (by rfl) (.tmp 56) (.tmp 58) (by rfl) Try.underlying22 hi0 hz0 hz1 hz2 rfl (by decide) (by rfl) (own10) (by rfl) ((src_new (sz := 8) w9 #[.int .i64 e.id, .int .i64 e.kind, .int .i64 e.tick, .int .i64 e.ref, .int .i64 e.step, .int .i64 e.tryN, .bool e.undo, .string e.data] 39 rfl (EvS.one e)).below hb10') (by omega) (by unfold maxLen; omega) ?_
          intro b2 c2 w12 own12 g12 l12
          have hb12 : Below w9.heap.size w9 w12 := (hb10).grown g12 (hb10).size (fun k hk => hl10 k hk)
          have hre : ReadE w12 (.slice b2 (l.length + 1) c2) (l ++ [e]) := by
            have h1 := own12
            have h2 := readE_snoc (e := e) h1 HZZ.out.1 HZZ.out.2
            exact h2
          have HRE := Lib.hid hre
          have HB12 := Lib.hid hb12
          refine hK.out _ _ (HSX.out _ (hb12)) (fun hHeld => ?_)
          clear hK K
          try simp only [Act.put]
          clear own12 g12 l12 hb12 hre
          refine wpAnyH_ready (rs := [6]) (by kernel_rfl) (by simp) ?_
          refine AllReadyH.cons rfl (fun K hK => ?_) AllReadyH.nil
          go_simp
          go_at_call 14
          refine (HST.out _ _ HRE.out).mono ?_
          rintro x w13 ⟨g, j, k, rfl, r13, b13⟩
          dsimp only
          have HB13 := Lib.hid (HB12.out.trans (b13.mono HB12.out.size))
          have R13 := Lib.hid r13
          clear r13 b13
          refine hK.out _ _ (HSX.out _ (HB13.out)) (fun hHeld => ?_)
          clear hK K
          try simp only [Act.put, List.setIfInBounds_toArray, List.set_cons_zero, List.set_cons_succ]
          refine wpAnyH_ready (rs := [7]) (by kernel_rfl) (by simp) ?_
          refine AllReadyH.cons rfl (fun K hK => ?_) AllReadyH.nil
          go_simp
          go_at_call 11
          refine (HSM.out _ _ _ _ HB13.out R13.out).mono ?_
          rintro x w14 ⟨rfl, b14⟩
          dsimp only
          have HB14 := Lib.hid (HB13.out.trans (b14.mono HB13.out.size))
          clear b14
          refine hK.out _ _ (HSX.out _ (HB14.out)) (fun hHeld => ?_)
          clear hK K
          try simp only [Act.put, List.setIfInBounds_toArray, List.set_cons_zero, List.set_cons_succ]
          refine wpAnyH_ready (rs := [8]) (by kernel_rfl) (by simp) ?_
          refine AllReadyH.cons rfl (fun K hK => ?_) AllReadyH.nil
          go_simp
          refine hK.out _ _ (HSX.out _ (HB14.out)) (fun _ => ?_)
          clear hK K hHeld
          try simp only [Act.put, List.setIfInBounds_toArray, List.set_cons_zero, List.set_cons_succ]
          refine wpAnyH_done (by kernel_rfl) ?_ _
          have HF := Lib.hid (HBB.out _ HB14.out)
          go_wp2
          go_ret
          exact ⟨by first | (simp; done) | (go_simp; done), HF.out⟩
      · have hT := HT2.out h0
        have g0 : ((E2 : Int) != 0) = true := by rw [bne_iff_ne]; omega
        have HSZ := Lib.hid (rsame14_any T StS.zero T9.out (ReadSt.zero _))
        rw [(sameSt_iff _ _).2 hT] at HSZ
        have hz9 := TX9.out.cells
        have s0 := (block_cell hz9 0).trans rfl
        have s1 := (block_cell hz9 1).trans rfl
        have s2 := (block_cell hz9 2).trans rfl
        have s3 := (block_cell hz9 3).trans rfl
        have s4 := (block_cell hz9 4).trans rfl
        have s5 := (block_cell hz9 5).trans rfl
        have s6 := (block_cell hz9 6).trans rfl
        have s7 := (block_cell hz9 7).trans rfl
        have s8 := (block_cell hz9 8).trans rfl
        have s9 := (block_cell hz9 9).trans rfl
        have s10 := (block_cell hz9 10).trans rfl
        have s11 := (block_cell hz9 11).trans rfl
        have HSZ2 : Hid (Calls Try.prog 11 #[.agg #[.slice ta T.prog.steps.length tc, .int .i64 T.prog.limit, .int .i64 T.status, .int .i64 T.next, .int .i64 T.began, .int .i64 T.asked, .int .i64 T.taken, .bool T.fresh, .slice tja T.jobs.length tjc, .slice tka T.clocks.length tkc, .bool T.cancel, .bool T.overdue], .agg #[.slice none 0 0, .int .i64 0, .int .i64 0, .int .i64 0, .int .i64 0, .int .i64 0, .int .i64 0, .bool false, .slice none 0 0, .slice none 0 0, .bool false, .bool false]] w9 fun x w' => x = .returned (.bool true) ∧ Below w9.heap.size w9 w') := HSZ.out
        clear hz9 HSZ h0 hT
        go_wp2_with fail
        refine HSZ2.out.mono ?_
        rintro x w10 ⟨rfl, b10⟩
        have B10 := Lib.hid (B9.out.trans (b10.mono B9.out.size))
        clear b10 s0 s1 s2 s3 s4 s5 s6 s7 s8 s9 s10 s11
        go_wp2
        go_ret
        exact ⟨rfl, B10.out⟩
    · have g0 : ((E : Int) != 0) = true := by rw [bne_iff_ne]; omega
      clear hE
      go_wp2
      go_ret
      exact ⟨rfl, B3.out⟩
end Go.Proofs.Ytlkfpeefjpmmfaa

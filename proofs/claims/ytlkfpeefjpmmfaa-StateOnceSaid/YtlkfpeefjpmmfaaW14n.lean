/- Layer 14: the contracts of the program's Apply and Build. -/
import Derived.Test.YtlkfpeefjpmmfaaJ41
import Derived.Test.YtlkfpeefjpmmfaaJ46
namespace Go.Proofs.Ytlkfpeefjpmmfaa
open Go.RowKit
set_option linter.unusedVariables false

theorem StOwn.ends {base base' : Nat} {w : World} {g j k : Value} {S : StS} (h : StOwn base w g j k S) (hb : base' ≤ base) : OwnSt base' w g j k S :=
  ⟨h.read, OwnR.of (f := StepS.cells) (sz := 6) (fun _ => rfl) h.og (fun q hq => Nat.le_trans hb (h.og.lt q hq).1), OwnR.of JobS.len h.oj (fun q hq => Nat.le_trans hb (h.oj.lt q hq).1), OwnR.of ClkS.len h.ok (fun q hq => Nat.le_trans hb (h.ok.lt q hq).1), h.ne⟩
theorem results_cell1 {fn : Func} {p u : Tmp} {ty : TypeId} (h : fn.results = #[.cell p ty, .tmp u]) (tmps : Array Value) (P : Program) (w : World) :
    (results fn tmps).run P w = ((asAddr (tmps.getD p undef)).run P w).andThen fun a w₁ => ((loadVar ty a).run P w₁).andThen fun v w₂ => .ok (.tuple #[v, tmps.getD u undef]) w₂ := by
  simp only [results, h]
  simp [Sem.run_bind, Result.andThen]
/-- A state's own lists where another block is set. -/
theorem StOwn.far {base q : Nat} {w w' : World} {g j k : Value} {S : StS} (h : StOwn base w g j k S) (hq : q < base) (ho : ∀ m, m ≠ q → w'.heap[m]? = w.heap[m]?) : StOwn base w' g j k S :=
  h.other ⟨row_ne h.og hq, row_ne h.oj hq, row_ne h.ok hq⟩ ho rfl rfl rfl

theorem row_ne5 {v : Value} {base q : Nat} (h : ∀ m, v.ownBlock = some m → base ≤ m ∧ m < q) : v.ownBlock ≠ some q := fun e => by have := (h q e).2; omega
set_option maxHeartbeats 8000000 in
set_option maxRecDepth 100000 in
theorem apply14_any {w : World} {g j k : Value} (l : List EvS) (e : EvS) (hok : OkH l) (h : ReadSt w g j k (stateH l)) (hd : e.data.size ≤ 140737488351232) :
    Calls Try.prog 12 #[(stateH l).val' g j k, e.val'] w fun x w' => ∃ g' j' k' S E, x = .returned (.tuple #[S.val' g' j' k', .int .i64 (E : Nat)]) ∧ OwnSt w.heap.size w' g' j' k' S ∧ E = errS (stateH l) e ∧ (E = 0 → S = stateH (l ++ [e])) ∧ (E ≠ 0 → S = StS.zero) ∧ Below w.heap.size w w' := by
  have hgd := hok.good
  have hzz : (stateH l).next = 0 → stateH l = StS.zero := fun hn => by rw [(state_next l).1 hn]; rfl
  have HSN : Hid (errS (stateH l) e = 0 → aftS (stateH l) e = stateH (l ++ [e])) := fun he => (state_snoc hok he).symm
  obtain ⟨ST, hST⟩ : ∃ ST, stateH l = ST := ⟨_, rfl⟩
  rw [hST] at h hgd hzz HSN ⊢
  obtain ⟨N, hN⟩ : ∃ N, stateH (l ++ [e]) = N := ⟨_, rfl⟩
  rw [hN] at HSN ⊢
  clear hST hN hok
  have hstp : ST.prog.steps.length ≤ 1000 := by
    have := hgd.pg
    unfold progB at this
    simp only [Bool.and_eq_true, decide_eq_true_eq] at this
    omega
  have hjl := hgd.jl
  have hcl := hgd.cl
  obtain ⟨w1, hw1, b1, X1, hs1⟩ := stBoxed w g j k ST
  obtain ⟨w2, hw2, b2, E2, hs2⟩ := evBoxed w1 e
  obtain ⟨w3, hw3⟩ : ∃ w3, w2.alloc (.cells zeroSt 30) = w3 := ⟨_, rfl⟩
  have b3 : Below w2.heap.size w2 w3 := by rw [← hw3]; exact (Below.refl _ w2).alloc (Nat.le_refl _) _
  have hn3 : w3.heap[w2.heap.size]? = some (.cells zeroSt 30 (0, 0)) := by rw [← hw3]; exact heap_alloc_new _ _
  have hs3 : w3.heap.size = w2.heap.size + 1 := by rw [← hw3]; simp
  have B3 := Lib.hid ((b1.trans (b2.mono b1.size)).trans (b3.mono (b1.trans (b2.mono b1.size)).size))
  have X3 := Lib.hid ((X1.later b2).later b3)
  have HE3 := Lib.hid (E2.later b3)
  have N3 := Lib.hid hn3
  have SZ := Lib.hid (And.intro hs1 (And.intro hs2 hs3))
  have HCK := Lib.hid (check14_any ST (h.below B3.out) hgd e hd)
  have HR := Lib.hid h
  have HCP : Hid (∀ wx, Below w.heap.size w wx → Calls Try.prog 19 #[ST.val' g j k] wx fun x w' => ∃ g' j' k', x = .returned (ST.val' g' j' k') ∧ StOwn wx.heap.size w' g' j' k' ST ∧ Below wx.heap.size wx w') := fun wx t => copyOf_any ST (HR.out.below t) hstp (by omega) (by omega)
  have HCH : Hid (errS ST e = 0 → ∀ (base q : Nat) (wx : World) (g j k : Value), StAt base q wx g j k ST → Calls Try.prog 17 #[.pointer (some ⟨q, 0, none⟩), e.val'] wx fun x w' => x = .returned (.tuple #[]) ∧ (∃ g' j' k', StAt base q w' g' j' k' (aftS ST e)) ∧ Below base wx w') := fun he base q wx g j k hs => change_any hs hgd hzz hd he
  obtain ⟨V, hV⟩ : ∃ V, errS ST e = V := ⟨_, rfl⟩
  rw [hV] at HCK HCH HSN
  rw [hV]
  obtain ⟨AF, hAF⟩ : ∃ AF, aftS ST e = AF := ⟨_, rfl⟩
  rw [hAF] at HCH HSN
  unfold zeroSt at hw3
  have s0 := (block_cell X3.out.cells 0).trans rfl
  have s1 := (block_cell X3.out.cells 1).trans rfl
  have s2 := (block_cell X3.out.cells 2).trans rfl
  have s3 := (block_cell X3.out.cells 3).trans rfl
  have s4 := (block_cell X3.out.cells 4).trans rfl
  have s5 := (block_cell X3.out.cells 5).trans rfl
  have s6 := (block_cell X3.out.cells 6).trans rfl
  have s7 := (block_cell X3.out.cells 7).trans rfl
  have s8 := (block_cell X3.out.cells 8).trans rfl
  have s9 := (block_cell X3.out.cells 9).trans rfl
  have s10 := (block_cell X3.out.cells 10).trans rfl
  have s11 := (block_cell X3.out.cells 11).trans rfl
  obtain ⟨d0, d1, d2, d3, d4, d5, d6, d7⟩ := HE3.out.c
  unfold StS.val' EvS.val' at HCK
  unfold EvS.val' at HCH
  unfold StS.val' at HCP
  clear h hgd hzz hstp hjl hcl hs1 hs2 hs3 X1 E2 b1 b2 b3 hn3 hV hAF
  show Calls Try.prog 12 #[.agg #[g, .int .i64 ST.prog.limit, .int .i64 ST.status, .int .i64 ST.next, .int .i64 ST.began, .int .i64 ST.asked, .int .i64 ST.taken, .bool ST.fresh, j, k, .bool ST.cancel, .bool ST.overdue], .agg #[.int .i64 e.id, .int .i64 e.kind, .int .i64 e.tick, .int .i64 e.ref, .int .i64 e.step, .int .i64 e.tryN, .bool e.undo, .string e.data]] w _
  go_enter Try.func12, Try.ntmps12
  go_wp2_with fail
  refine HCK.out.mono ?_
  rintro x w4 ⟨rfl, b4⟩
  have B4 := Lib.hid (B3.out.trans (b4.mono B3.out.size))
  have X4 := Lib.hid (X3.out.later b4)
  have HE4 := Lib.hid (HE3.out.later b4)
  have N4 := Lib.hid ((b4.block _ (block_lt N3.out)).trans N3.out)
  have S4 := Lib.hid b4.size
  clear b4 d0 d1 d2 d3 d4 d5 d6 d7 s0 s1 s2 s3 s4 s5 s6 s7 s8 s9 s10 s11
  by_cases h0 : V = 0
  · subst h0
    have HS2 := Lib.hid (HSN.out rfl)
    have HCH2 := Lib.hid (HCH.out rfl)
    have s0 := (block_cell X4.out.cells 0).trans rfl
    have s1 := (block_cell X4.out.cells 1).trans rfl
    have s2 := (block_cell X4.out.cells 2).trans rfl
    have s3 := (block_cell X4.out.cells 3).trans rfl
    have s4 := (block_cell X4.out.cells 4).trans rfl
    have s5 := (block_cell X4.out.cells 5).trans rfl
    have s6 := (block_cell X4.out.cells 6).trans rfl
    have s7 := (block_cell X4.out.cells 7).trans rfl
    have s8 := (block_cell X4.out.cells 8).trans rfl
    have s9 := (block_cell X4.out.cells 9).trans rfl
    have s10 := (block_cell X4.out.cells 10).trans rfl
    have s11 := (block_cell X4.out.cells 11).trans rfl
    go_wp2_with fail
    refine (HCP.out _ B4.out).mono ?_
    rintro x w5 ⟨g5, j5, k5, rfl, o5, b5⟩
    obtain ⟨g5, c5, rfl⟩ := o5.rg.slice
    obtain ⟨j5, m5, rfl⟩ := row_slice12 o5.oj
    obtain ⟨k5, e5, rfl⟩ := row_slice12 o5.ok
    obtain ⟨w6, hw6, b6, X6, hs6⟩ := stBoxed w5 (.slice g5 ST.prog.steps.length c5) (.slice j5 ST.jobs.length m5) (.slice k5 ST.clocks.length e5) ST
    have B5 := Lib.hid (b5.trans (b6.mono b5.size))
    have HA6 : Hid (StAt w4.heap.size w5.heap.size w6 (.slice g5 ST.prog.steps.length c5) (.slice j5 ST.jobs.length m5) (.slice k5 ST.clocks.length e5) ST) := ⟨X6, o5.below b6, b5.size, row_ne5 o5.og.lt, row_ne5 o5.oj.lt, row_ne5 o5.ok.lt⟩
    have HE6 := Lib.hid (HE4.out.later (b5.trans (b6.mono b5.size)))
    have N6 := Lib.hid (((b5.trans (b6.mono b5.size)).block _ (block_lt N4.out)).trans N4.out)
    obtain ⟨d0, d1, d2, d3, d4, d5, d6, d7⟩ := HE6.out.c
    clear s0 s1 s2 s3 s4 s5 s6 s7 s8 s9 s10 s11 b5 o5 X6 hs6 b6
    go_upto_region 5 with (fail)
    (try rw [hw6])
    clear hw6
    go_wp2_with fail
    refine (HCH2.out _ _ _ _ _ _ HA6.out).mono ?_
    rintro x w7 ⟨rfl, ⟨g7, j7, k7, h7⟩, b7⟩
    obtain ⟨g7, c7, rfl⟩ := h7.own.rg.slice
    obtain ⟨j7, m7, rfl⟩ := row_slice12 h7.own.oj
    obtain ⟨k7, e7, rfl⟩ := row_slice12 h7.own.ok
    have HA7 := Lib.hid h7
    have B7 := Lib.hid (B5.out.trans b7)
    have N7 := Lib.hid ((b7.block _ (block_lt N4.out)).trans N6.out)
    have BB := Lib.hid (B4.out.trans ((B5.out.trans b7).mono B4.out.size))
    clear h7 b7 d0 d1 d2 d3 d4 d5 d6 d7
    have hn7 : w7.heap[w2.heap.size]? = some (.cells #[.slice none 0 0, .int .i64 0, .int .i64 0, .int .i64 0, .int .i64 0, .int .i64 0, .int .i64 0, .bool false, .slice none 0 0, .slice none 0 0, .bool false, .bool false] 30 (0, 0)) := N7.out
    have p0 := (block_cell HA7.out.box.cells 0).trans rfl
    have p1 := (block_cell HA7.out.box.cells 1).trans rfl
    have p2 := (block_cell HA7.out.box.cells 2).trans rfl
    have p3 := (block_cell HA7.out.box.cells 3).trans rfl
    have p4 := (block_cell HA7.out.box.cells 4).trans rfl
    have p5 := (block_cell HA7.out.box.cells 5).trans rfl
    have p6 := (block_cell HA7.out.box.cells 6).trans rfl
    have p7 := (block_cell HA7.out.box.cells 7).trans rfl
    have p8 := (block_cell HA7.out.box.cells 8).trans rfl
    have p9 := (block_cell HA7.out.box.cells 9).trans rfl
    have p10 := (block_cell HA7.out.box.cells 10).trans rfl
    have p11 := (block_cell HA7.out.box.cells 11).trans rfl
    have q0 := (block_cell hn7 0).trans rfl
    have q1 := (block_cell hn7 1).trans rfl
    have q2 := (block_cell hn7 2).trans rfl
    have q3 := (block_cell hn7 3).trans rfl
    have q4 := (block_cell hn7 4).trans rfl
    have q5 := (block_cell hn7 5).trans rfl
    have q6 := (block_cell hn7 6).trans rfl
    have q7 := (block_cell hn7 7).trans rfl
    have q8 := (block_cell hn7 8).trans rfl
    have q9 := (block_cell hn7 9).trans rfl
    have q10 := (block_cell hn7 10).trans rfl
    have q11 := (block_cell hn7 11).trans rfl
    have f0 := block_free hn7 0
    have f1 := block_free hn7 1
    have f2 := block_free hn7 2
    have f3 := block_free hn7 3
    have f4 := block_free hn7 4
    have f5 := block_free hn7 5
    have f6 := block_free hn7 6
    have f7 := block_free hn7 7
    have f8 := block_free hn7 8
    have f9 := block_free hn7 9
    have f10 := block_free hn7 10
    have f11 := block_free hn7 11
    clear hn7
    go_wp2
    (try simp only [Exit.inBlock, Exit.then])
    refine bodyPost_ret (v := .tuple #[AF.val' (.slice g7 AF.prog.steps.length c7) (.slice j7 AF.jobs.length m7) (.slice k7 AF.clocks.length e7), .int .i64 0]) ?_ rfl ⟨_, _, _, AF, 0, rfl, ?_, rfl, fun _ => HS2.out, fun h => (h rfl).elim, (setSt w7 w2.heap.size _ _ _ _ _ _ _ _ _ _ _ _).2 _ _ BB.out (by have := B4.out.size; have := SZ.out; omega)⟩
    · rw [results_cell1 rfl]
      unfold StS.val'
      go_simp
    · have h1 := SZ.out
      have h2 := S4.out
      exact (HA7.out.own.far (q := w2.heap.size) (by omega) (setSt w7 w2.heap.size _ _ _ _ _ _ _ _ _ _ _ _).1).ends (by omega)
  · have g0 : ((V : Int) != 0) = true := by rw [bne_iff_ne]; omega
    have HV := Lib.hid h0
    have hn4 : w4.heap[w2.heap.size]? = some (.cells #[.slice none 0 0, .int .i64 0, .int .i64 0, .int .i64 0, .int .i64 0, .int .i64 0, .int .i64 0, .bool false, .slice none 0 0, .slice none 0 0, .bool false, .bool false] 30 (0, 0)) := N4.out
    have q0 := (block_cell hn4 0).trans rfl
    have q1 := (block_cell hn4 1).trans rfl
    have q2 := (block_cell hn4 2).trans rfl
    have q3 := (block_cell hn4 3).trans rfl
    have q4 := (block_cell hn4 4).trans rfl
    have q5 := (block_cell hn4 5).trans rfl
    have q6 := (block_cell hn4 6).trans rfl
    have q7 := (block_cell hn4 7).trans rfl
    have q8 := (block_cell hn4 8).trans rfl
    have q9 := (block_cell hn4 9).trans rfl
    have q10 := (block_cell hn4 10).trans rfl
    have q11 := (block_cell hn4 11).trans rfl
    have f0 := block_free hn4 0
    have f1 := block_free hn4 1
    have f2 := block_free hn4 2
    have f3 := block_free hn4 3
    have f4 := block_free hn4 4
    have f5 := block_free hn4 5
    have f6 := block_free hn4 6
    have f7 := block_free hn4 7
    have f8 := block_free hn4 8
    have f9 := block_free hn4 9
    have f10 := block_free hn4 10
    have f11 := block_free hn4 11
    clear h0 hn4
    go_wp2
    (try simp only [Exit.inBlock, Exit.then])
    refine bodyPost_ret (v := .tuple #[StS.zero.val' (.slice none 0 0) (.slice none 0 0) (.slice none 0 0), .int .i64 (V : Int)]) ?_ rfl ⟨.slice none 0 0, .slice none 0 0, .slice none 0 0, StS.zero, V, rfl, ?_, rfl, fun h => (HV.out h).elim, fun _ => rfl, (setSt w4 w2.heap.size _ _ _ _ _ _ _ _ _ _ _ _).2 _ _ B4.out (by have := SZ.out; omega)⟩
    · rw [results_cell1 rfl]
      unfold StS.val' StS.zero
      go_simp
    · exact (StOwn.zero _ _).ends (Nat.le_refl _)

set_option maxHeartbeats 8000000 in
set_option maxRecDepth 100000 in
theorem build14_any {w : World} {a : Option Addr} {c : Nat} (l : List EvS) (h : ReadE w (.slice a l.length c) l) (hc : l.length ≤ c) (hz : ∀ x ∈ l, x.data.size ≤ 140737488351232) :
    Calls Try.prog 9 #[.slice a l.length c] w fun x w' => ∃ g j k S i E, x = .returned (.tuple #[S.val' g j k, .int .i64 (i : Nat), .int .i64 (E : Nat)]) ∧ OwnSt w.heap.size w' g j k S ∧ BldEnd l S i E ∧ Below w.heap.size w w' := by
  obtain ⟨w1, hw1⟩ : ∃ w1, w.alloc (.cells zeroSt 30) = w1 := ⟨_, rfl⟩
  have b1 : Below w.heap.size w w1 := by rw [← hw1]; exact (Below.refl _ w).alloc (Nat.le_refl _) _
  have hn1 : w1.heap[w.heap.size]? = some (.cells zeroSt 30 (0, 0)) := by rw [← hw1]; exact heap_alloc_new _ _
  have hs1 : w1.heap.size = w.heap.size + 1 := by rw [← hw1]; simp
  obtain ⟨w2, hw2⟩ : ∃ w2, w1.alloc (.cells zeroSt 30) = w2 := ⟨_, rfl⟩
  have b2 : Below w1.heap.size w1 w2 := by rw [← hw2]; exact (Below.refl _ w1).alloc (Nat.le_refl _) _
  have hn2 : w2.heap[w1.heap.size]? = some (.cells zeroSt 30 (0, 0)) := by rw [← hw2]; exact heap_alloc_new _ _
  unfold zeroSt at hw1 hw2
  have H := Lib.hid h
  have HZ := Lib.hid hz
  have HST : Hid (StAt w1.heap.size w1.heap.size w2 (.slice none 0 0) (.slice none 0 0) (.slice none 0 0) StS.zero) := ⟨hn2, StOwn.zero _ _, Nat.le_refl _, fun h => by simp [Value.ownBlock] at h, fun h => by simp [Value.ownBlock] at h, fun h => by simp [Value.ownBlock] at h⟩
  have H2 : Hid (w1.heap.size = w.heap.size + 1 ∧ Below w.heap.size w w2 ∧ w2.heap[w.heap.size]? = some (.cells zeroSt 30 (0, 0))) := ⟨hs1, b1.trans (b2.mono b1.size), (b2.block _ (block_lt hn1)).trans hn1⟩
  obtain ⟨n, hn⟩ : ∃ n, l.length = n := ⟨_, rfl⟩
  have HN := Lib.hid hn
  have hml : n ≤ 9223372036854775807 := by have := h.1; rw [hn] at this; unfold maxLen at this; omega
  rw [hn]
  rw [hn] at H hc
  clear h hz b1 hn1 hs1 b2 hn2 hn
  go_enter Try.func9, Try.ntmps9
  go_wp2
  go_loopw [11] (fun iv wr => ∃ i : Nat, i ≤ n ∧ iv = .int .i64 (i : Int) ∧ Hid (OkH (l.take i) ∧ (∃ g j k, StAt w1.heap.size w1.heap.size wr g j k (stateH (l.take i))) ∧ Below w.heap.size w wr ∧ wr.heap[w.heap.size]? = some (.cells zeroSt 30 (0, 0)))) (fun iv _ => n - (intOf iv).toNat)
  case atStart => exact ⟨0, Nat.zero_le _, rfl, OkH.nil, ⟨_, _, _, HST.out⟩, H2.out.2.1, H2.out.2.2⟩
  case round =>
    obtain ⟨i, hi, rfl, HR⟩ := hrel
    obtain ⟨g, j, k, hat⟩ := HR.out.2.1
    have HAT := Lib.hid hat
    have HOK := Lib.hid HR.out.1
    have HBL := Lib.hid HR.out.2.2.1
    have HRS := Lib.hid HR.out.2.2.2
    clear hat HR
    by_cases hlt : i < n
    · have hi2 : (i : Int) < (n : Int) := by omega
      have hil : i < l.length := by rw [HN.out]; exact hlt
      have hmes : n - (intOf (.int .i64 ((i : Int) + 1))).toNat < n - (intOf (.int .i64 (i : Int))).toNat := by simp [intOf]; omega
      obtain ⟨b, o, rfl, r0, r1, r2, r3, r4, r5, r6, r7, -⟩ := (H.out.below HBL.out).at hil
      have hgd := HOK.out.good
      have hzz : (stateH (l.take i)).next = 0 → stateH (l.take i) = StS.zero := fun hn => by rw [(state_next _).1 hn]; rfl
      have HX := Lib.hid (HZ.out l[i] (List.getElem_mem hil))
      have HNX : Hid (errS (stateH (l.take i)) l[i] = 0 → OkH (l.take (i + 1)) ∧ aftS (stateH (l.take i)) l[i] = stateH (l.take (i + 1))) := fun he => by
        rw [List.take_succ_eq_append_getElem hil]
        exact ⟨.snoc HOK.out he, (state_snoc HOK.out he).symm⟩
      have HBE : Hid (errS (stateH (l.take i)) l[i] ≠ 0 → BldEnd l StS.zero i (errS (stateH (l.take i)) l[i])) := fun h => .inr ⟨hil, HOK.out, rfl, h, rfl⟩
      generalize l[i] = x at *
      obtain ⟨S, hS⟩ : ∃ S, stateH (l.take i) = S := ⟨_, rfl⟩
      rw [hS] at hgd hzz HNX HBE HAT
      clear hS
      obtain ⟨ga, gc, rfl⟩ := HAT.out.own.rg.slice
      obtain ⟨ja, jc, rfl⟩ := row_slice12 HAT.out.own.oj
      obtain ⟨ka, kc, rfl⟩ := row_slice12 HAT.out.own.ok
      obtain ⟨w3, hw3, b3, X3, hs3⟩ := evBoxed wr x
      have A3 := Lib.hid (HAT.out.later b3)
      have X3' := Lib.hid X3
      have B3 := Lib.hid (HBL.out.trans (b3.mono HBL.out.size))
      have N3 := Lib.hid ((b3.block _ (block_lt HRS.out)).trans HRS.out)
      have HCK := Lib.hid (check14_any S A3.out.own.read hgd x HX.out)
      have HCH : Hid (errS S x = 0 → ∀ (wx : World), StAt w1.heap.size w1.heap.size wx (.slice ga S.prog.steps.length gc) (.slice ja S.jobs.length jc) (.slice ka S.clocks.length kc) S → Calls Try.prog 17 #[.pointer (some ⟨w1.heap.size, 0, none⟩), x.val'] wx fun y w' => y = .returned (.tuple #[]) ∧ (∃ g' j' k', StAt w1.heap.size w1.heap.size w' g' j' k' (aftS S x)) ∧ Below w1.heap.size wx w') := fun he wx hs => change_any hs hgd hzz HX.out he
      obtain ⟨V, hV⟩ : ∃ V, errS S x = V := ⟨_, rfl⟩
      rw [hV] at HCK HCH HNX HBE
      unfold StS.val' EvS.val' at HCK
      unfold EvS.val' at HCH
      clear hgd hzz hV b3 X3 hs3
      go_upto_region 5 with (fail)
      (try rw [hw3])
      clear hw3 r0 r1 r2 r3 r4 r5 r6 r7
      have s0 := (block_cell A3.out.box.cells 0).trans rfl
      have s1 := (block_cell A3.out.box.cells 1).trans rfl
      have s2 := (block_cell A3.out.box.cells 2).trans rfl
      have s3 := (block_cell A3.out.box.cells 3).trans rfl
      have s4 := (block_cell A3.out.box.cells 4).trans rfl
      have s5 := (block_cell A3.out.box.cells 5).trans rfl
      have s6 := (block_cell A3.out.box.cells 6).trans rfl
      have s7 := (block_cell A3.out.box.cells 7).trans rfl
      have s8 := (block_cell A3.out.box.cells 8).trans rfl
      have s9 := (block_cell A3.out.box.cells 9).trans rfl
      have s10 := (block_cell A3.out.box.cells 10).trans rfl
      have s11 := (block_cell A3.out.box.cells 11).trans rfl
      obtain ⟨d0, d1, d2, d3, d4, d5, d6, d7⟩ := X3'.out.c
      go_wp2_with fail
      refine HCK.out.mono ?_
      rintro y w4 ⟨rfl, b4⟩
      have A4 := Lib.hid (A3.out.later b4)
      have X4 := Lib.hid (X3'.out.later b4)
      have B4 := Lib.hid (B3.out.trans (b4.mono B3.out.size))
      have N4 := Lib.hid ((b4.block _ (block_lt N3.out)).trans N3.out)
      clear s0 s1 s2 s3 s4 s5 s6 s7 s8 s9 s10 s11 d0 d1 d2 d3 d4 d5 d6 d7 b4
      by_cases h0 : V = 0
      · subst h0
        have HN2 := Lib.hid (HNX.out rfl)
        have HC2 := Lib.hid (HCH.out rfl)
        obtain ⟨d0, d1, d2, d3, d4, d5, d6, d7⟩ := X4.out.c
        go_wp2_with fail
        refine (HC2.out _ A4.out).mono ?_
        rintro y w5 ⟨rfl, h5, b5⟩
        have HA5 := Lib.hid h5
        have B5 := Lib.hid (B4.out.trans (b5.mono (by have := H2.out.1; omega)))
        have N5 := Lib.hid ((b5.block _ (by have := H2.out.1; omega)).trans N4.out)
        clear h5 b5 d0 d1 d2 d3 d4 d5 d6 d7
        go_wp2
        go_roundw
        case rel => exact ⟨i + 1, by omega, by go_num, HN2.out.1, by rw [← HN2.out.2]; exact HA5.out, B5.out, N5.out⟩
        case measure => exact hmes
      · have g0 : ((V : Int) != 0) = true := by rw [bne_iff_ne]; omega
        have HE := Lib.hid (HBE.out h0)
        have hn4 : w4.heap[w.heap.size]? = some (.cells #[.slice none 0 0, .int .i64 0, .int .i64 0, .int .i64 0, .int .i64 0, .int .i64 0, .int .i64 0, .bool false, .slice none 0 0, .slice none 0 0, .bool false, .bool false] 30 (0, 0)) := N4.out
        have q0 := (block_cell hn4 0).trans rfl
        have q1 := (block_cell hn4 1).trans rfl
        have q2 := (block_cell hn4 2).trans rfl
        have q3 := (block_cell hn4 3).trans rfl
        have q4 := (block_cell hn4 4).trans rfl
        have q5 := (block_cell hn4 5).trans rfl
        have q6 := (block_cell hn4 6).trans rfl
        have q7 := (block_cell hn4 7).trans rfl
        have q8 := (block_cell hn4 8).trans rfl
        have q9 := (block_cell hn4 9).trans rfl
        have q10 := (block_cell hn4 10).trans rfl
        have q11 := (block_cell hn4 11).trans rfl
        have f0 := block_free hn4 0
        have f1 := block_free hn4 1
        have f2 := block_free hn4 2
        have f3 := block_free hn4 3
        have f4 := block_free hn4 4
        have f5 := block_free hn4 5
        have f6 := block_free hn4 6
        have f7 := block_free hn4 7
        have f8 := block_free hn4 8
        have f9 := block_free hn4 9
        have f10 := block_free hn4 10
        have f11 := block_free hn4 11
        clear h0 hn4
        go_wp2
        (try simp only [Exit.inBlock, Exit.then])
        refine bodyPost_ret (v := .tuple #[StS.zero.val' (.slice none 0 0) (.slice none 0 0) (.slice none 0 0), .int .i64 (i : Int), .int .i64 (V : Int)]) ?_ rfl ⟨.slice none 0 0, .slice none 0 0, .slice none 0 0, StS.zero, i, V, rfl, (StOwn.zero _ _).ends (Nat.le_refl _), HE.out, (setSt w4 w.heap.size _ _ _ _ _ _ _ _ _ _ _ _).2 _ _ B4.out (Nat.le_refl _)⟩
        rw [results_cell3 rfl]
        unfold StS.val' StS.zero
        go_simp
    · obtain rfl : i = n := by omega
      have hll : ¬ (i : Int) < (i : Int) := by omega
      have HOL : Hid (OkH l ∧ stateH (l.take i) = stateH l) := by have := HOK.out; rw [← HN.out, List.take_length] at *; exact ⟨this, rfl⟩
      obtain ⟨S, hS⟩ : ∃ S, stateH (l.take i) = S := ⟨_, rfl⟩
      rw [hS] at HAT HOL
      clear hS
      obtain ⟨ga, gc, rfl⟩ := HAT.out.own.rg.slice
      obtain ⟨ja, jc, rfl⟩ := row_slice12 HAT.out.own.oj
      obtain ⟨ka, kc, rfl⟩ := row_slice12 HAT.out.own.ok
      have p0 := (block_cell HAT.out.box.cells 0).trans rfl
      have p1 := (block_cell HAT.out.box.cells 1).trans rfl
      have p2 := (block_cell HAT.out.box.cells 2).trans rfl
      have p3 := (block_cell HAT.out.box.cells 3).trans rfl
      have p4 := (block_cell HAT.out.box.cells 4).trans rfl
      have p5 := (block_cell HAT.out.box.cells 5).trans rfl
      have p6 := (block_cell HAT.out.box.cells 6).trans rfl
      have p7 := (block_cell HAT.out.box.cells 7).trans rfl
      have p8 := (block_cell HAT.out.box.cells 8).trans rfl
      have p9 := (block_cell HAT.out.box.cells 9).trans rfl
      have p10 := (block_cell HAT.out.box.cells 10).trans rfl
      have p11 := (block_cell HAT.out.box.cells 11).trans rfl
      have hn4 : wr.heap[w.heap.size]? = some (.cells #[.slice none 0 0, .int .i64 0, .int .i64 0, .int .i64 0, .int .i64 0, .int .i64 0, .int .i64 0, .bool false, .slice none 0 0, .slice none 0 0, .bool false, .bool false] 30 (0, 0)) := HRS.out
      have q0 := (block_cell hn4 0).trans rfl
      have q1 := (block_cell hn4 1).trans rfl
      have q2 := (block_cell hn4 2).trans rfl
      have q3 := (block_cell hn4 3).trans rfl
      have q4 := (block_cell hn4 4).trans rfl
      have q5 := (block_cell hn4 5).trans rfl
      have q6 := (block_cell hn4 6).trans rfl
      have q7 := (block_cell hn4 7).trans rfl
      have q8 := (block_cell hn4 8).trans rfl
      have q9 := (block_cell hn4 9).trans rfl
      have q10 := (block_cell hn4 10).trans rfl
      have q11 := (block_cell hn4 11).trans rfl
      have f0 := block_free hn4 0
      have f1 := block_free hn4 1
      have f2 := block_free hn4 2
      have f3 := block_free hn4 3
      have f4 := block_free hn4 4
      have f5 := block_free hn4 5
      have f6 := block_free hn4 6
      have f7 := block_free hn4 7
      have f8 := block_free hn4 8
      have f9 := block_free hn4 9
      have f10 := block_free hn4 10
      have f11 := block_free hn4 11
      clear hn4
      go_wp2
      (try simp only [Exit.inBlock, Exit.then])
      refine bodyPost_ret (v := .tuple #[S.val' (.slice ga S.prog.steps.length gc) (.slice ja S.jobs.length jc) (.slice ka S.clocks.length kc), .int .i64 0, .int .i64 0]) ?_ rfl ⟨_, _, _, S, 0, 0, rfl, ?_, .inl ⟨HOL.out.1, HOL.out.2.symm ▸ rfl, rfl, rfl⟩, (setSt wr w.heap.size _ _ _ _ _ _ _ _ _ _ _ _).2 _ _ HBL.out (Nat.le_refl _)⟩
      · rw [results_cell3 rfl]
        unfold StS.val'
        go_simp
      · have h1 := H2.out.1
        exact (HAT.out.own.far (q := w.heap.size) (by omega) (setSt wr w.heap.size _ _ _ _ _ _ _ _ _ _ _ _).1).ends (by omega)

theorem stateK : StateK where
  build := fun l h hc hz => build14_any l h hc hz
  apply := fun l e hok h hd => apply14_any l e hok h hd
end Go.Proofs.Ytlkfpeefjpmmfaa

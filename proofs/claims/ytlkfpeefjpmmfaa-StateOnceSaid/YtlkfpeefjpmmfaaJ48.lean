/- Joined: K14b K14c OB OF. -/
import Derived.Test.YtlkfpeefjpmmfaaJ46
import Derived.Test.YtlkfpeefjpmmfaaJ02
import Derived.Test.YtlkfpeefjpmmfaaRows
import Derived.ProofKit
import Derived.OpenShut
import Derived.SliceStrings
import Derived.SizedLaws
import Derived.Deep.Slices
import Derived.Deep.Fields
import Derived.ChangeSame

namespace Go.Proofs.Ytlkfpeefjpmmfaa
open Go.RowKit
set_option linter.unusedVariables false

theorem own_cap14 {w : World} {base : Nat} {e : TypeId} {sz n c : Nat} {a : Option Addr} {xs : List Value} (h : w.ownsRow base e sz (.slice a n c) n xs) : n ≤ c := by
  rcases h.2 with ⟨h1, h0⟩ | ⟨g, cap, cur, h1, _, hg, hle, hcm, _⟩
  · omega
  · injection h1 with e1 e2 e3
    omega
theorem EvS.arr_cells (e : EvS) : e.arr.toList = e.cells := rfl
set_option maxHeartbeats 4000000 in
set_option maxRecDepth 100000 in
theorem awake14_any (K : StateK) (w : World) :
    Calls Try.prog 8 #[] w fun x w' => x = .returned (.bool true) ∧ Below w.heap.size w w' := by
  obtain ⟨i0, hi0, hz0, hz1, hz2⟩ := info_parts infoEv
  go_enter Try.func8, Try.ntmps8
  go_wp2_with fail
  refine (begun_any _).mono ?_
  rintro x w1 ⟨rfl, b1⟩
  have B1 := Lib.hid b1
  clear b1
  unfold EvS.val' aEv1 aData
  obtain ⟨W1, hW1⟩ : ∃ W1, w1.alloc (.cells #[.int .i64 1, .int .i64 1, .int .i64 0, .int .i64 0, .int .i64 0, .int .i64 0, .bool false, .string ⟨#[0, 1, 1, 1, 97, 2, 0, 0]⟩, .int .i64 2, .int .i64 6, .int .i64 0, .int .i64 0, .int .i64 0, .int .i64 0, .bool false, .string ⟨#[]⟩] 39) = W1 := ⟨_, rfl⟩
  have hrow : W1.ownsRow 0 39 8 (.slice (some ⟨w1.heap.size, 0, none⟩) 2 2) 2 (rowE [aEv1, aEv2]) := by
    rw [← hW1]
    exact World.ownsRow_lit w1 _ 2 (Nat.zero_le _) (by decide) rfl
  have hbW : Below w1.heap.size w1 W1 := by rw [← hW1]; exact (Below.refl _ _).alloc (Nat.le_refl _) _
  have HROW := Lib.hid hrow
  have HBW := Lib.hid (B1.out.trans (hbW.mono B1.out.size))
  have HW1S : Hid (w1.heap.size < W1.heap.size) := by rw [← hW1]; show _ < _; simp
  have hb2 := K.build [aEv1, aEv2] (ReadE.own (l := [aEv1, aEv2]) hrow (by decide)) (Nat.le_refl 2) (by decide)
  have HBL2 := Lib.hid hb2
  clear hrow hbW hb2
  go_wp2_with fail
  refine HBL2.out.mono ?_
  rintro x w2 ⟨g, j, k, S, i, E, rfl, o2, hb, b2⟩
  obtain ⟨rfl, rfl, rfl⟩ := bld_one aBld2 hb
  obtain ⟨ga, gc, rfl⟩ := o2.read.g.slice
  obtain ⟨ja, jc, rfl⟩ := o2.read.j.slice
  obtain ⟨ka, kc, rfl⟩ := o2.read.c.slice
  have O2 := Lib.hid o2
  have B2 := Lib.hid b2
  clear o2 hb b2 hW1 HBL2
  unfold StS.val' aSt2 aProg
  simp only [List.length_cons, List.length_nil, Nat.zero_add]
  go_upto_region 3 with (fail)
  obtain ⟨W3, hW3⟩ : ∃ W3, w2.alloc (.cells #[.slice ga 1 gc, .int .i64 0, .int .i64 0, .int .i64 3, .int .i64 0, .int .i64 0, .int .i64 0, .bool true, .slice ja 1 jc, .slice ka 0 kc, .bool false, .bool false] 30) = W3 := ⟨_, rfl⟩
  have hn3 : W3.heap[w2.heap.size]? = some (.cells #[.slice ga 1 gc, .int .i64 0, .int .i64 0, .int .i64 3, .int .i64 0, .int .i64 0, .int .i64 0, .bool true, .slice ja 1 jc, .slice ka 0 kc, .bool false, .bool false] 30 (0, 0)) := by rw [← hW3]; exact heap_alloc_new _ _
  have hb3 : Below w2.heap.size w2 W3 := by rw [← hW3]; exact (Below.refl _ _).alloc (Nat.le_refl _) _
  have HN3 := Lib.hid hn3
  have HB3 := Lib.hid (HBW.out.trans ((B2.out.trans (hb3.mono B2.out.size)).mono HBW.out.size))
  have HROW3 := Lib.hid (ownsRow_below (ownsRow_below HROW.out B2.out) hb3)
  have HJ3 := Lib.hid (O2.out.read.j.below hb3)
  have HBK : Hid (∀ wx, Below W3.heap.size W3 wx → Below w.heap.size w wx) := fun wx t => HB3.out.trans (t.mono HB3.out.size)
  have HSB : Hid (∀ q, (Value.slice (some ⟨w1.heap.size, 0, none⟩) 2 2).ownBlock = some q → w.heap.size ≤ q) := fun q hq => by
    have e : w1.heap.size = q := by injection hq
    rw [← e]; exact B1.out.size
  have HLT : Hid (w1.heap.size < w2.heap.size) := Nat.lt_of_lt_of_le HW1S.out B2.out.size
  clear hn3 hb3
  rw [hW3]
  clear hW3
  have hbz := (Below.refl W3.heap.size W3).alloc (Nat.le_refl _) (.cells #[.int .i64 3, .int .i64 7, .int .i64 0, .int .i64 2, .int .i64 0, .int .i64 2, .bool false, .string ⟨#[]⟩] 39)
  have HBZ := Lib.hid hbz
  clear hbz
  go_wp2_with (at_builtin; go_loud (refine wpList_app _ rfl (.tmp 18) (.tmp 20) rfl Try.underlying22 hi0 hz0 hz1 hz2 rfl (by decide) rfl (ownsRow_below HROW3.out HBZ.out) rfl (src_new (sz := 8) W3 #[.int .i64 3, .int .i64 7, .int .i64 0, .int .i64 2, .int .i64 0, .int .i64 2, .bool false, .string ⟨#[]⟩] 39 rfl (EvS.one aEv3)) ?c1 ?c2 ?_))
  case c1 => decide
  case c2 => decide
  intro v4 w4 own4 g4 l4
  obtain ⟨va, vc, rfl⟩ := row_slice12 own4
  have hbl := K.build (w := w4) (a := va) (c := vc) [aEv1, aEv2, aEv3] (ReadE.own (l := [aEv1, aEv2, aEv3]) own4 (by decide)) (own_cap14 own4) (by decide)
  have HBL3 := Lib.hid hbl
  have hne : (Value.slice (some ⟨w1.heap.size, 0, none⟩) 2 2).ownBlock ≠ some w2.heap.size := fun e => by
    have e1 : w1.heap.size = w2.heap.size := by injection e
    have := HLT.out
    omega
  have HN4 := Lib.hid ((g4.block w2.heap.size (by have := block_lt HN3.out; have := HBZ.out.size; omega) (fun e => hne e.symm)).trans ((HBZ.out.block _ (block_lt HN3.out)).trans HN3.out))
  have HB4 := Lib.hid ((HBK.out _ HBZ.out).grown g4 (HBK.out _ HBZ.out).size (fun q hq => HSB.out q hq))
  have HJ4 : Hid (ReadJ w4 (.slice ja 1 jc) [⟨2, 0, false, 1⟩]) := by
    have h0 : ReadJ (W3.alloc (.cells #[.int .i64 3, .int .i64 7, .int .i64 0, .int .i64 2, .int .i64 0, .int .i64 2, .bool false, .string ⟨#[]⟩] 39)) (.slice ja 1 jc) [⟨2, 0, false, 1⟩] := HJ3.out.below HBZ.out
    have hjb := O2.out.oj.2.1
    obtain ⟨h1, a, c, hv, h3⟩ := h0
    refine ⟨h1, a, c, hv, ?_⟩
    rcases h3 with h3 | ⟨b, o, rfl, h3⟩
    · exact .inl h3
    · refine .inr ⟨b, o, rfl, fun i hi j u hu => ?_⟩
      have hc := h3 i hi j u hu
      injection hv with e1 _ _
      have hb := (hjb b (by rw [e1]; rfl)).1
      have hlt := World.block_lt_of_cell? _ _ hc
      refine (World.cell?_of_block (g4.block b hlt (fun e => ?_))).trans hc
      have e2 : w1.heap.size = b := by injection e with e; exact e.symm
      have := HW1S.out
      omega
  clear own4 g4 l4 hbl hne
  go_wp2_with fail
  refine HBL3.out.mono ?_
  rintro x w5 ⟨g', j', k', S, i, E, rfl, o5, hb, b5⟩
  obtain ⟨rfl, rfl, rfl⟩ := bld_one aBld3 hb
  obtain ⟨ga', gc', rfl⟩ := o5.read.g.slice
  obtain ⟨ja', jc', rfl⟩ := o5.read.j.slice
  obtain ⟨ka', kc', rfl⟩ := o5.read.c.slice
  have HN5 := Lib.hid ((b5.block _ (block_lt HN4.out)).trans HN4.out)
  have HB5 := Lib.hid (HB4.out.trans (b5.mono HB4.out.size))
  have HJ5 := Lib.hid (HJ4.out.below b5)
  clear o5 hb b5
  unfold StS.val' StS.zero
  simp only [List.length_nil]
  go_upto_region 4 with (fail)
  obtain ⟨W6, hW6⟩ : ∃ W6, w5.alloc (.cells #[.slice ga' 0 gc', .int .i64 0, .int .i64 0, .int .i64 0, .int .i64 0, .int .i64 0, .int .i64 0, .bool false, .slice ja' 0 jc', .slice ka' 0 kc', .bool false, .bool false] 30) = W6 := ⟨_, rfl⟩
  have hb6 : Below w5.heap.size w5 W6 := by rw [← hW6]; exact (Below.refl _ _).alloc (Nat.le_refl _) _
  have hn6 := (hb6.block _ (block_lt HN5.out)).trans HN5.out
  have HB6 := Lib.hid (HB5.out.trans (hb6.mono HB5.out.size))
  obtain ⟨jb, jo, e1, q0, q1, q2, q3⟩ := (HJ5.out.below hb6).job (i := 0) (by decide)
  subst e1
  have s8 := (block_cell hn6 8).trans rfl
  have r0 : W6.cell? ⟨jb, jo, none⟩ = some (.int .i64 2) := by simpa using q0
  clear hb6 hn6 q0 q1 q2 q3
  rw [hW6]
  clear hW6
  go_wp2
  go_ret
  exact ⟨rfl, HB6.out⟩
end Go.Proofs.Ytlkfpeefjpmmfaa

namespace Go.Proofs.Ytlkfpeefjpmmfaa
open Go.RowKit
set_option linter.unusedVariables false

set_option maxHeartbeats 4000000 in
set_option maxRecDepth 100000 in
theorem builds14_walk (K : StateK) (a : Option Addr) (c : Nat) (l : List EvS) (w : World) (h : ReadE w (.slice a l.length c) l) (hc : l.length ≤ c) (hz : ∀ x ∈ l, x.data.size ≤ 140737488351232) :
    Calls Try.prog 3 #[.slice a l.length c] w fun x w' => x = .returned (.bool true) ∧ Below w.heap.size w w' := by
  have HK : Hid (∀ wx, Below w.heap.size w wx → Calls Try.prog 9 #[.slice a l.length c] wx fun x w' => ∃ g j k S i E, x = .returned (.tuple #[S.val' g j k, .int .i64 (i : Nat), .int .i64 (E : Nat)]) ∧ OwnSt wx.heap.size w' g j k S ∧ BldEnd l S i E ∧ Below wx.heap.size wx w') := fun wx t => K.build l (h.below t) hc hz
  have HR : Hid (∀ wx, Below w.heap.size w wx → Calls Try.prog 10 #[.slice a l.length c] wx fun x w' => ∃ g j k S i E, x = .returned (.tuple #[S.val' g j k, .int .i64 (i : Nat), .int .i64 (E : Nat)]) ∧ ReadSt w' g j k S ∧ BldEnd l S i E ∧ Below wx.heap.size wx w') := fun wx t => rbuild_any (h.below t) hc hz
  have hml : l.length ≤ 9223372036854775807 := by have := h.1; unfold maxLen at this; omega
  clear h hz
  go_enter Try.func3, Try.ntmps3
  go_wp2_with fail
  refine (awake14_any K _).mono ?_
  rintro x w1 ⟨rfl, b1⟩
  have B1 := Lib.hid b1
  clear b1
  by_cases h60 : (60 : Int) < (l.length : Int)
  · go_wp2
    go_ret
    exact ⟨rfl, B1.out⟩
  · go_wp2_with fail
    refine (HK.out _ B1.out).mono ?_
    rintro x w2 ⟨g, j, k, S, i, E, rfl, o2, hb, b2⟩
    obtain ⟨ga, gc, rfl⟩ := o2.read.g.slice
    obtain ⟨ja, jc, rfl⟩ := o2.read.j.slice
    obtain ⟨ka, kc, rfl⟩ := o2.read.c.slice
    have B2 := Lib.hid (B1.out.trans (b2.mono B1.out.size))
    have R2 := Lib.hid o2.read
    have HBE := Lib.hid hb
    clear o2 hb b2 HK
    unfold StS.val'
    go_upto_region 6 with (fail)
    obtain ⟨W3, hW3, b3, X3, -⟩ := stBoxed w2 (.slice ga S.prog.steps.length gc) (.slice ja S.jobs.length jc) (.slice ka S.clocks.length kc) S
    rw [hW3]
    have B3 := Lib.hid (B2.out.trans (b3.mono B2.out.size))
    have R3 := Lib.hid (R2.out.below b3)
    have HX3 := Lib.hid X3
    clear hW3 b3 X3 R2
    go_wp2_with fail
    refine (HR.out _ B3.out).mono ?_
    rintro x w4 ⟨g, j, k, T, i', E', rfl, r4, hb, b4⟩
    obtain ⟨rfl, rfl, rfl⟩ := bld_one HBE.out hb
    obtain ⟨ga', gc', rfl⟩ := r4.g.slice
    obtain ⟨ja', jc', rfl⟩ := r4.j.slice
    obtain ⟨ka', kc', rfl⟩ := r4.c.slice
    have B4 := Lib.hid (B3.out.trans (b4.mono B3.out.size))
    have R4 := Lib.hid r4
    have R4' := Lib.hid (R3.out.below b4)
    have HX4 := Lib.hid (HX3.out.later b4)
    clear r4 hb b4 HR HX3 R3
    unfold StS.val'
    go_upto_region 7 with (fail)
    obtain ⟨W5, hW5, b5, X5, -⟩ := stBoxed w4 (.slice ga' T.prog.steps.length gc') (.slice ja' T.jobs.length jc') (.slice ka' T.clocks.length kc') T
    rw [hW5]
    have B5 := Lib.hid (B4.out.trans (b5.mono B4.out.size))
    have HSA := Lib.hid (rsame14_any T T (R4'.out.below b5) (R4.out.below b5))
    have hx := (HX4.out.later b5).cells
    have hy := X5.cells
    clear hW5 b5 X5
    have s0 := (block_cell hx 0).trans rfl
    have s1 := (block_cell hx 1).trans rfl
    have s2 := (block_cell hx 2).trans rfl
    have s3 := (block_cell hx 3).trans rfl
    have s4 := (block_cell hx 4).trans rfl
    have s5 := (block_cell hx 5).trans rfl
    have s6 := (block_cell hx 6).trans rfl
    have s7 := (block_cell hx 7).trans rfl
    have s8 := (block_cell hx 8).trans rfl
    have s9 := (block_cell hx 9).trans rfl
    have s10 := (block_cell hx 10).trans rfl
    have s11 := (block_cell hx 11).trans rfl
    have t0 := (block_cell hy 0).trans rfl
    have t1 := (block_cell hy 1).trans rfl
    have t2 := (block_cell hy 2).trans rfl
    have t3 := (block_cell hy 3).trans rfl
    have t4 := (block_cell hy 4).trans rfl
    have t5 := (block_cell hy 5).trans rfl
    have t6 := (block_cell hy 6).trans rfl
    have t7 := (block_cell hy 7).trans rfl
    have t8 := (block_cell hy 8).trans rfl
    have t9 := (block_cell hy 9).trans rfl
    have t10 := (block_cell hy 10).trans rfl
    have t11 := (block_cell hy 11).trans rfl
    clear hx hy
    rw [sameSt_refl] at HSA
    unfold StS.val' at HSA
    go_wp2_with fail
    refine HSA.out.mono ?_
    rintro x w6 ⟨rfl, b6⟩
    have B6 := Lib.hid (B5.out.trans (b6.mono B5.out.size))
    clear b6 s0 s1 s2 s3 s4 s5 s6 s7 s8 s9 s10 s11 t0 t1 t2 t3 t4 t5 t6 t7 t8 t9 t10 t11
    go_wp2
    go_ret
    exact ⟨by simp, B6.out⟩
end Go.Proofs.Ytlkfpeefjpmmfaa

namespace Go.Proofs.Ytlkfpeefjpmmfaa
open Go.ChangeShapes Go.WideShapes Go.ChangeAt Go.RowKit
set_option linter.unusedVariables false

theorem bulk_one {H : Type} (d : DataW H) : 1 ≤ Rows.uptoBulk d := by
  cases d with
  | lit l => cases l <;> simp [Rows.uptoBulk]
  | nil => simp [Rows.uptoBulk]
  | ptr d => simp [Rows.uptoBulk]
  | slice elems spare => simp [Rows.uptoBulk]
  | agg parts => simp [Rows.uptoBulk]
  | iface t d => simp [Rows.uptoBulk]
  | map entries => simp [Rows.uptoBulk]
  | held h => simp [Rows.uptoBulk]

theorem bulk_length {H : Type} (l : List (DataW H)) : l.length ≤ Rows.uptoBulkAll l := by
  induction l with
  | nil => simp [Rows.uptoBulkAll]
  | cons x r ih => have := bulk_one x; simp only [Rows.uptoBulkAll, List.length_cons]; omega

theorem bulk_bound {H : Type} {l : List (DataW H)} (hk : Rows.uptoSmall H l = true) : Rows.uptoBulkAll l ≤ 1048576 := of_decide_eq_true hk

theorem row1_of {W : World} {a : Addr} {len n : Nat} {V : Nat → Value} (hn : len ≤ n) (hm : len ≤ maxLen) (h : ∀ i, i < n → W.cell? (a.add i) = some (V i)) : Row1 W (some a) len V := by
  refine ⟨by unfold maxLen at hm; omega, ?_⟩
  by_cases h0 : len = 0
  · exact .inl h0
  · obtain ⟨b, off, spot⟩ := a
    have hspot : spot = none := by simpa [Addr.add] using World.cell?_spot (h 0 (by omega))
    subst hspot
    have hc : ∀ i, i < len → W.cell? ⟨b, off + i, none⟩ = some (V i) := fun i hi => by rw [← Addr.add_lit]; exact h i (by omega)
    exact .inr ⟨b, off, rfl, World.block_lt_of_cell? W ⟨b, off + 0, none⟩ (hc 0 (by omega)), hc⟩

section
variable {H : Type} {enc : TypeId × Value → H} {W : World} {base : Nat} {v : Value} {d : DataW H} {p : List MemPlace}

theorem bulk_strs (ss : List ByteArray) : Rows.uptoBulkAll (strs (H := H) ss) = sizes ss + ss.length := by
  induction ss with
  | nil => rfl
  | cons s r ih =>
    have e : strs (H := H) (s :: r) = .lit (.string s.data.toList) :: strs r := rfl
    rw [e, Rows.uptoBulkAll, Rows.uptoBulk, ih, sizes_cons]
    have : s.data.toList.length = s.size := by simp
    rw [List.length_cons]; omega

set_option maxRecDepth 100000 in
theorem open_textsc (hval : Value.okWide Try.prog W .any base 105 v) (h : DataW.Trod enc Try.prog W 0 (fun _ => true) true 105 v d p) :
    ∃ a len cap ss, v = .slice a len cap ∧ Row1 W a len (fun i => .string ((ss : List ByteArray).getD i ByteArray.empty)) ∧ ss.length = len ∧ sizes ss + ss.length ≤ Rows.uptoBulk d ∧ len ≤ cap := by
  obtain ⟨a0, len, cap, rfl⟩ := okWide_slice Try.underlying105 hval
  obtain ⟨fuel, hf⟩ := h
  rcases open_strings Try.underlying105 Try.underlying9 (by kernel_rfl) hf with ⟨hcs, hx⟩ | ⟨x, l, c, ss, hcs, _, hl, hm, hz, hx, hcell, hws⟩
  · simp [Value.cells] at hcs
    obtain ⟨rfl, rfl, rfl⟩ := hcs
    exact ⟨none, 0, 0, [], rfl, ⟨by omega, .inl rfl⟩, rfl, by simp [sizes]⟩
  · simp [Value.cells] at hcs
    obtain ⟨rfl, rfl, rfl⟩ := hcs
    simp only [Prod.mk.injEq] at hx
    obtain ⟨rfl, rfl⟩ := hx
    simp only [if_true] at hz
    refine ⟨some x, len, cap, ss.take len, rfl, ?_, by simp; omega, ?_⟩
    · refine row1_of (n := len) (Nat.le_refl _) (by omega) fun i hi => ?_
      rw [hcell i (by omega)]
      have hi' : i < ss.length := by omega
      congr 2
      simp [List.getD, hi, hi']
    · have := bulk_strs (H := H) (ss.take len)
      simp only [Rows.uptoBulk]
      omega

set_option maxRecDepth 100000 in
/-- .. where the form's reach is handed in, too. -/
theorem open_textsr {ts : List TypeId} {ds : List (DataW H)} {j : Nat} (hval : Value.okWide Try.prog W .any base 105 v) (h : DataW.Trod enc Try.prog W 0 (fun _ => true) true 105 v d p)
    (hsz : (DataW.weightsEach Try.prog ts ds).all (· ≤ reachBytes) = true) (ht : ts[j]? = some 105) (hd : ds[j]? = some d) :
    ∃ a len cap ss, v = .slice a len cap ∧ Row1 W a len (fun i => .string ((ss : List ByteArray).getD i ByteArray.empty)) ∧ ss.length = len ∧ len ≤ cap := by
  obtain ⟨a, len, cap, ss, h1, h2, h3, _, h5⟩ := open_textsc hval h
  exact ⟨a, len, cap, ss, h1, h2, h3, h5⟩
end
end Go.Proofs.Ytlkfpeefjpmmfaa

namespace Go.Proofs.Ytlkfpeefjpmmfaa
open Go.ChangeShapes Go.WideShapes Go.ChangeAt Go.RowKit Go.Deep
set_option linter.unusedVariables false

section
variable {H : Type} {enc : TypeId × Value → H} {P : Program} {W : World} {v : Value} {x : DataW H × List MemPlace}

/-- Each element by itself: its cells, and each as its field reads. -/
theorem rows_open {t e : TypeId} {fs : Array Field} {fuel : Nat} (ht : P.underlying t = some (.slice e)) (he : P.underlying e = some (.struct fs)) (hone : oneCellFields P fs = true) (hC : P.cellsOf e = fs.size)
    (h : DataW.trod enc P W 0 (fun _ => true) true fuel t [v] = some x) :
    (v = .slice none 0 0 ∧ x.1 = .nil) ∨ ∃ (a : Addr) (len cap : Nat) (D : Nat → DataW H) (rest : List (DataW H)), v = .slice (some a) len cap ∧ len ≤ cap ∧ cap ≤ maxLen ∧ x.1 = .slice ((List.range len).map D) rest ∧
      ∀ i, i < len → ∃ (vs : List Value) (ys : List (DataW H × List MemPlace)) (n : Nat), vs.length = fs.size ∧ ys.length = fs.size ∧ D i = .agg (ys.map (·.1)) ∧ (∀ j (hj : j < vs.length), W.cell? (a.add (i * fs.size + j)) = some vs[j]) ∧
        ∀ (j : Nat) (f : Field), fs[j]? = some f → ∃ u y, vs[j]? = some u ∧ ys[j]? = some y ∧ DataW.trod enc P W 0 (fun _ => true) true n f.type [u] = some y := by
  rcases open_slice ht h with ⟨h1, h2⟩ | ⟨a, len, cap, m, n, D, Pl, h1, _, h2, h3, h4, h5, h6⟩
  · simp at h1
    exact .inl ⟨h1, by rw [h2]⟩
  · simp at h1
    refine .inr ⟨a, len, cap, D, _, h1, h2, h3, by rw [h5], fun i hi => ?_⟩
    obtain ⟨cs, hcs, htr⟩ := h6 i (by simp at h4; omega)
    obtain ⟨_, hlen, hcell⟩ := World.cells?_some hcs
    obtain ⟨ys, k, _, hD, hl2, hl3, hf⟩ := DataW.trod_struct he htr
    simp only [Prod.mk.injEq] at hD
    rw [hC] at hlen hcell
    refine ⟨cs, ys, k, hlen, hl3, hD.1, fun j hj => ?_, fun j f hj => ?_⟩
    · have := hcell j (by omega)
      rw [add_add] at this
      rw [this, List.getElem?_eq_getElem hj]
    · obtain ⟨ho, hk⟩ := hone_of hone j f hj
      have hjl : j < fs.size := (Array.getElem?_eq_some_iff.1 hj).1
      have hfj := hf j f hj
      have h1 : cs.drop f.offset = cs[j] :: cs.drop (j + 1) := by rw [ho]; exact List.drop_eq_getElem_cons (by omega)
      rw [h1, hk] at hfj
      refine ⟨cs[j], ys[j], List.getElem?_eq_getElem (by omega), List.getElem?_eq_getElem (by omega), ?_⟩
      rw [List.getElem?_eq_getElem (by omega)] at hfj
      exact hfj

theorem bulk_map (D : Nat → DataW H) (g : Nat → Nat) : ∀ l : List Nat, (∀ i ∈ l, g i ≤ Rows.uptoBulk (D i)) → (l.map g).sum ≤ Rows.uptoBulkAll (l.map D)
  | [], _ => by simp [Rows.uptoBulkAll]
  | i :: r, h => by
    have h1 := h i (by simp)
    have h2 := bulk_map D g r (fun j hj => h j (by simp [hj]))
    simp only [List.map_cons, List.sum_cons, Rows.uptoBulkAll]
    omega
end
end Go.Proofs.Ytlkfpeefjpmmfaa

/- Layer 14: the contract of the program's change, kind by kind: a try more, the start. -/
import Derived.Test.YtlkfpeefjpmmfaaW14j
namespace Go.Proofs.Ytlkfpeefjpmmfaa
open Go.RowKit
set_option linter.unusedVariables false

theorem set_same {α : Type} {L : List α} {k : Nat} {a : α} (h : L[k]? = some a) : L.set k a = L := by
  obtain ⟨hk, e⟩ := List.getElem?_eq_some_iff.1 h
  rw [← e, List.set_getElem_self]
theorem row_try {m : List JobS} {i : Nat} (hi : i < m.length) (t : Int) : (rowR JobS.cells m).set (i * 4 + 3) (.int .i64 t) = rowR JobS.cells (m.set i { m[i] with tryN := t }) := by
  have hl : (rowR JobS.cells m).length = m.length * 4 := rowR_len JobS.cells 4 JobS.len m
  have e := rowR_set JobS.cells 4 JobS.len { m[i] with tryN := t } m i hi
  have e2 : JobS.cells { m[i] with tryN := t } = [.int .i64 m[i].id, .int .i64 m[i].step, .bool m[i].undo, .int .i64 t] := rfl
  have hat := rowR_at JobS.cells 4 JobS.len m i hi
  have h0 : (rowR JobS.cells m)[i * 4]? = some (.int .i64 m[i].id) := hat 0 _ rfl
  have h1 : (rowR JobS.cells m)[i * 4 + 1]? = some (.int .i64 m[i].step) := hat 1 _ rfl
  have h2 : (rowR JobS.cells m)[i * 4 + 2]? = some (.bool m[i].undo) := hat 2 _ rfl
  rw [e2, ← set4 _ _ _ _ _ _ (by omega), set_same h0, set_same h1, set_same h2] at e
  exact e.symm

set_option maxHeartbeats 4000000 in
set_option maxRecDepth 100000 in
theorem change_8 {base q : Nat} {w : World} {g j k : Value} {S : StS} (h : StAt base q w g j k S) {e : EvS} (hev : evB e = true) (hk : e.kind = 8) (hl : S.jobs.length ≤ 1000) {i : Nat} (hi : i < S.jobs.length) (hx : S.jobs.findIdx? (isT e) = some i) (ht : 0 ≤ S.jobs[i].tryN ∧ S.jobs[i].tryN ≤ 501) :
    Calls Try.prog 17 #[.pointer (some ⟨q, 0, none⟩), e.val'] w fun x w' => x = .returned (.tuple #[]) ∧ (∃ g' j' k', StAt base q w' g' j' k' { S with next := e.id + 1, jobs := S.jobs.set i { S.jobs[i] with tryN := S.jobs[i].tryN + 1 } }) ∧ Below base w w' := by
  have hid := ((evB_iff _).1 hev).id
  have htk := ((evB_iff _).1 hev).tick
  obtain ⟨id, kind, tick, ref, step, tryN, undo, data⟩ := e
  simp only at hid hk htk
  have HKD := Lib.hid hk
  obtain ⟨w1, hw1, b1, E1, hs1⟩ := evBoxed w ⟨id, kind, tick, ref, step, tryN, undo, data⟩
  have H0 := Lib.hid h
  have H1 := Lib.hid (h.later b1)
  have HE1 := Lib.hid E1
  have B1 := Lib.hid b1
  have HQ : Hid (q < w.heap.size ∧ base ≤ q) := ⟨h.box.lt, h.lo⟩
  have f3 := block_free H1.out.box.cells 3
  have q3 := (block_cell H1.out.box.cells 3).trans rfl
  obtain ⟨d0, d1, -⟩ := E1.c
  have hio : IntKind.i64.wrap (id + 1) = id + 1 := IntWalk.i64_in _ ⟨by omega, by omega⟩
  unfold EvS.val'
  simp only at hw1 d0 d1
  subst hk
  clear hev b1 E1 hs1 h
  go_enter Try.func17, Try.ntmps17
  go_upto_region 2 with (fail)
  obtain ⟨w2, hw2⟩ : ∃ w2, w1.setCell ⟨q, 3, none⟩ (.int .i64 (id + 1)) = w2 := ⟨_, rfl⟩
  have HO2 : Hid (∀ m, m ≠ q → w2.heap[m]? = w1.heap[m]?) := by refine Lib.hid ?_; rw [← hw2]; exact set_other _ _ _ _
  have HC2 : Hid (w2.heap[q]? = some (.cells #[g, .int .i64 S.prog.limit, .int .i64 S.status, .int .i64 (id + 1), .int .i64 S.began, .int .i64 S.asked, .int .i64 S.taken, .bool S.fresh, j, k, .bool S.cancel, .bool S.overdue] 30 (0, 0))) := by refine Lib.hid ?_; rw [← hw2]; exact cells_set H1.out.box.cells
  have B2 : Hid (Below base w w2) := by refine Lib.hid ?_; rw [← hw2]; exact (B1.out.mono (by have := HQ.out; omega)).setCell (p := ⟨q, 3, none⟩) HQ.out.2 _
  have HE2 : Hid (EvBox w2 w.heap.size ⟨id, 8, tick, ref, step, tryN, undo, data⟩) := (HO2.out _ (by have := HQ.out; omega)).trans HE1.out
  have HN2 : Hid (w2.heap.size = w1.heap.size ∧ w1.heap.size = w.heap.size + 1) := by refine Lib.hid ⟨?_, ?_⟩; (rw [← hw2]; simp [World.setCell]); (rw [← hw1]; simp)
  (try rw [hw2])
  clear hw2 f3 q3 d0 d1 hio
  obtain ⟨d0, d1, d2, d3, d4, d5, d6, d7⟩ := HE2.out.c
  have s0 := (block_cell HC2.out 0).trans rfl
  have s1 := (block_cell HC2.out 1).trans rfl
  have s2 := (block_cell HC2.out 2).trans rfl
  have s3 := (block_cell HC2.out 3).trans rfl
  have s4 := (block_cell HC2.out 4).trans rfl
  have s5 := (block_cell HC2.out 5).trans rfl
  have s6 := (block_cell HC2.out 6).trans rfl
  have s7 := (block_cell HC2.out 7).trans rfl
  have s8 := (block_cell HC2.out 8).trans rfl
  have s9 := (block_cell HC2.out 9).trans rfl
  have s10 := (block_cell HC2.out 10).trans rfl
  have s11 := (block_cell HC2.out 11).trans rfl
  have f0 := block_free HC2.out 0
  have f1 := block_free HC2.out 1
  have f2 := block_free HC2.out 2
  have f3 := block_free HC2.out 3
  have f4 := block_free HC2.out 4
  have f5 := block_free HC2.out 5
  have f6 := block_free HC2.out 6
  have f7 := block_free HC2.out 7
  have f8 := block_free HC2.out 8
  have f9 := block_free HC2.out 9
  have f10 := block_free HC2.out 10
  have f11 := block_free HC2.out 11
  simp only at d0 d1 d2 d3 d4 d5 d6 d7
  have HOJ := Lib.hid (ownsRow_base (row_other H1.out.own.oj H1.out.ne.2.1 HO2.out) (Nat.zero_le _))
  have HNE := Lib.hid H1.out.ne
  have HTB := Lib.hid (triedBy_any ⟨id, 8, tick, ref, step, tryN, undo, data⟩)
  have hix : idxL (isT ⟨id, 8, tick, ref, step, tryN, undo, data⟩) S.jobs = (i : Int) := by unfold idxL; rw [hx]
  obtain ⟨jb, cap, hj, hcap, hcm⟩ : ∃ q cap, j = .slice (some ⟨q, 0, none⟩) S.jobs.length cap ∧ S.jobs.length ≤ cap ∧ cap ≤ maxLen := by
    rcases HOJ.out.2 with ⟨_, h0⟩ | ⟨q, cap, cur, rfl, _, _, h, h2, _⟩
    · omega
    · exact ⟨q, cap, rfl, h, h2⟩
  subst hj
  unfold maxLen at hcm
  obtain ⟨-, -, -, hc3, hfr⟩ := own_cellsJ HOJ.out hi rfl
  have hjb : jb < w2.heap.size := (HOJ.out.lt jb rfl).2
  have hcell : w2.heap[jb]? ≠ none := by rw [Array.getElem?_eq_getElem hjb]; simp
  have HRJ := Lib.hid (OwnR.of (base' := 0) JobS.len HOJ.out (fun _ _ => Nat.zero_le _)).1
  have hio : IntKind.i64.wrap (S.jobs[i].tryN + 1) = S.jobs[i].tryN + 1 := IntWalk.i64_in _ ⟨by omega, by omega⟩
  have HS : Hid (∀ wx : World, (∀ m, m < w2.heap.size → wx.heap[m]? = w2.heap[m]?) → wx.cell? ⟨q, 8, none⟩ = some (.slice (some ⟨jb, 0, none⟩) S.jobs.length cap) ∧ wx.cell? ⟨jb, i * 4 + 3, none⟩ = some (.int .i64 S.jobs[i].tryN) ∧ wx.cell? ⟨w.heap.size, 0, none⟩ = some (.int .i64 id) ∧ wx.cell? ⟨w.heap.size, 1, none⟩ = some (.int .i64 8) ∧ wx.cell? ⟨w.heap.size, 2, none⟩ = some (.int .i64 tick) ∧ wx.cell? ⟨w.heap.size, 3, none⟩ = some (.int .i64 ref) ∧ wx.cell? ⟨w.heap.size, 4, none⟩ = some (.int .i64 step) ∧ wx.cell? ⟨w.heap.size, 5, none⟩ = some (.int .i64 tryN) ∧ wx.cell? ⟨w.heap.size, 6, none⟩ = some (.bool undo) ∧ wx.cell? ⟨w.heap.size, 7, none⟩ = some (.string data)) := fun wx t => by
    have hec := EvBox.c (w := wx) (b := w.heap.size) ((t _ (block_lt HE2.out)).trans HE2.out)
    exact ⟨(block_cell ((t q (block_lt HC2.out)).trans HC2.out) 8).trans rfl, (World.cell?_of_block (w := w2) (t jb hjb)).trans hc3, hec⟩
  have HROW := Lib.hid (row_try hi (S.jobs[i].tryN + 1))
  unfold EvS.val' at HTB
  simp only at HTB
  have hil : (i : Int) < (S.jobs.length : Int) := by omega
  obtain ⟨tn, htn⟩ : ∃ tn, S.jobs[i].tryN = tn := ⟨_, rfl⟩
  have HTN := Lib.hid htn
  rw [htn] at hc3 hio HS HROW
  clear htn
  go_upto_region 20 with (fail)
  clear d0 d1 d2 d3 d4 d5 d6 d7 s0 s1 s2 s3 s4 s5 s6 s7 s8 s9 s10 s11 f0 f1 f2 f3 f4 f5 f6 f7 f8 f9 f10 f11
  refine rest_region (late := [15, 16, 17]) (S := fun wx : World => wx.cell? ⟨q, 8, none⟩ = some (.slice (some ⟨jb, 0, none⟩) S.jobs.length cap) ∧ wx.cell? ⟨jb, i * 4 + 3, none⟩ = some (.int .i64 tn) ∧ wx.cell? ⟨w.heap.size, 0, none⟩ = some (.int .i64 id) ∧ wx.cell? ⟨w.heap.size, 1, none⟩ = some (.int .i64 8) ∧ wx.cell? ⟨w.heap.size, 2, none⟩ = some (.int .i64 tick) ∧ wx.cell? ⟨w.heap.size, 3, none⟩ = some (.int .i64 ref) ∧ wx.cell? ⟨w.heap.size, 4, none⟩ = some (.int .i64 step) ∧ wx.cell? ⟨w.heap.size, 5, none⟩ = some (.int .i64 tryN) ∧ wx.cell? ⟨w.heap.size, 6, none⟩ = some (.bool undo) ∧ wx.cell? ⟨w.heap.size, 7, none⟩ = some (.string data)) (by kernel_rfl) (HS.out _ (fun m hm => rfl)) (fun hHeld => ?_)
  refine Rest.take (i := 0) (v := ?_) rfl (by kernel_rfl) (by kernel_rfl) (by kernel_rfl) (by kernel_rfl) (fun _ _ _ h => h) (Or.inl ⟨by rfl, ?_⟩) (by assumption) ?_
  rotate_left
  · intro w hSw; (try dsimp only at hSw); go_simp; (try with_reducible rfl)
  try simp only [Act.put, List.setIfInBounds_toArray]
  refine Rest.take (i := 1) (v := ?_) rfl (by kernel_rfl) (by kernel_rfl) (by kernel_rfl) (by kernel_rfl) (fun _ _ _ h => h) (Or.inl ⟨by rfl, ?_⟩) (by assumption) ?_
  rotate_left
  · intro w hSw; (try dsimp only at hSw); go_simp; (try with_reducible rfl)
  try simp only [Act.put]
  refine Rest.take (i := 2) (v := ?_) rfl (by kernel_rfl) (by kernel_rfl) (by kernel_rfl) (by kernel_rfl) (fun _ _ _ h => h) (Or.inl ⟨by rfl, ?_⟩) (by assumption) ?_
  rotate_left
  · intro w hSw; (try dsimp only at hSw); go_simp; (try with_reducible rfl)
  try simp only [Act.put]
  refine Rest.take (i := 3) (v := ?_) rfl (by kernel_rfl) (by kernel_rfl) (by kernel_rfl) (by kernel_rfl) (fun _ _ _ h => h) (Or.inl ⟨by rfl, ?_⟩) (by assumption) ?_
  rotate_left
  · intro w hSw; (try dsimp only at hSw); go_simp; (try with_reducible rfl)
  try simp only [Act.put]
  refine Rest.take (i := 4) (v := ?_) rfl (by kernel_rfl) (by kernel_rfl) (by kernel_rfl) (by kernel_rfl) (fun _ _ _ h => h) (Or.inl ⟨by rfl, ?_⟩) (by assumption) ?_
  rotate_left
  · intro w hSw; (try dsimp only at hSw); go_simp; (try with_reducible rfl)
  try simp only [Act.put]
  refine Rest.take (i := 5) (v := ?_) rfl (by kernel_rfl) (by kernel_rfl) (by kernel_rfl) (by kernel_rfl) (fun _ _ _ h => h) (Or.inl ⟨by rfl, ?_⟩) (by assumption) ?_
  rotate_left
  · intro w hSw; (try dsimp only at hSw); go_simp; (try with_reducible rfl)
  try simp only [Act.put]
  refine Rest.take (i := 6) (v := ?_) rfl (by kernel_rfl) (by kernel_rfl) (by kernel_rfl) (by kernel_rfl) (fun _ _ _ h => h) (Or.inl ⟨by rfl, ?_⟩) (by assumption) ?_
  rotate_left
  · intro w hSw; (try dsimp only at hSw); go_simp; (try with_reducible rfl)
  try simp only [Act.put]
  refine Rest.take (i := 7) (v := ?_) rfl (by kernel_rfl) (by kernel_rfl) (by kernel_rfl) (by kernel_rfl) (fun _ _ _ h => h) (Or.inl ⟨by rfl, ?_⟩) (by assumption) ?_
  rotate_left
  · intro w hSw; (try dsimp only at hSw); go_simp; (try with_reducible rfl)
  try simp only [Act.put]
  refine Rest.take (i := 8) (v := ?_) rfl (by kernel_rfl) (by kernel_rfl) (by kernel_rfl) (by kernel_rfl) (fun _ _ _ h => h) (Or.inl ⟨by rfl, ?_⟩) (by assumption) ?_
  rotate_left
  · intro w hSw; (try dsimp only at hSw); go_simp; (try with_reducible rfl)
  try simp only [Act.put]
  refine Rest.one (i := 9) (by kernel_rfl) rfl (by rfl) (fun K hK => ?_)
  go_simp
  go_at_call 34
  refine (HTB.out _).mono ?_
  rintro e w5 ⟨rfl, x5, b5⟩
  dsimp only
  have hb5 := below_undrew b5
  refine hK.out _ _ (fun _ _ => HS.out _ (fun m hm => hb5.block m hm)) (fun hX => ?_)
  have hHeld := hX (by decide) hHeld
  clear hX hK K b5
  try simp only [Act.put, List.setIfInBounds_toArray, List.set_cons_zero, List.set_cons_succ]
  refine Rest.one (i := 10) (by kernel_rfl) rfl (by rfl) (fun K hK => ?_)
  go_simp
  go_at_call 35
  refine (indexJ_any (HRJ.out.below hb5) hl 66 #[.pointer (some ⟨w2.heap.size, 0, none⟩)] enters_tried (isT ⟨id, 8, tick, ref, step, tryN, undo, data⟩) (fun wx t x _ => triedBy1_any (x5.later t) x)).mono ?_
  rintro e w6 ⟨rfl, b6⟩
  have hb6 := hb5.trans (b6.mono hb5.size)
  have HBW := Lib.hid hb6
  dsimp only
  rw [hix]
  refine hK.out _ _ (fun _ _ => HS.out _ (fun m hm => hb6.block m hm)) (fun hX => ?_)
  have hHeld := hX (by decide) hHeld
  clear hX hK K b6 hb5
  try simp only [Act.put, List.setIfInBounds_toArray, List.set_cons_zero, List.set_cons_succ]
  refine Rest.take (i := 11) (v := ?_) rfl (by kernel_rfl) (by kernel_rfl) (by kernel_rfl) (by kernel_rfl) (fun _ _ _ h => h) (Or.inl ⟨by rfl, ?_⟩) (by assumption) ?_
  rotate_left
  · intro w hSw; (try dsimp only at hSw); go_simp; (try with_reducible rfl)
  try simp only [Act.put, List.setIfInBounds_toArray]
  refine Rest.take (i := 12) (v := ?_) rfl (by kernel_rfl) (by kernel_rfl) (by kernel_rfl) (by kernel_rfl) (fun _ _ _ h => h) (Or.inl ⟨by rfl, ?_⟩) (by assumption) ?_
  rotate_left
  · intro w hSw; (try dsimp only at hSw); go_simp; (try with_reducible rfl)
  try simp only [Act.put]
  refine Rest.take (i := 13) (v := ?_) rfl (by kernel_rfl) (by kernel_rfl) (by kernel_rfl) (by kernel_rfl) (fun _ _ _ h => h) (Or.inl ⟨by rfl, ?_⟩) (by assumption) ?_
  rotate_left
  · intro w hSw; (try dsimp only at hSw); go_simp; (try with_reducible rfl)
  try simp only [Act.put]
  refine Rest.take (i := 14) (v := ?_) rfl (by kernel_rfl) (by kernel_rfl) (by kernel_rfl) (by kernel_rfl) (fun _ _ _ h => h) (Or.inl ⟨by rfl, ?_⟩) (by assumption) ?_
  rotate_left
  · intro w hSw; (try dsimp only at hSw); go_simp; (try with_reducible rfl)
  try simp only [Act.put]
  have O6 := Lib.hid (ownsRow_below HOJ.out HBW.out)
  have c3 := hHeld.2.1
  have fr3 := O6.out.frozenAt (i * 4 + 3)
  refine Rest.one (i := 15) (by kernel_rfl) rfl (by rfl) (fun K hK => ?_)
  go_simp
  refine hK.out _ _ (fun h => absurd h (by decide)) (fun _ => ?_)
  clear hK K
  try simp only [Act.put, List.setIfInBounds_toArray, List.set_cons_zero, List.set_cons_succ]
  refine Rest.one (i := 16) (by kernel_rfl) rfl (by rfl) (fun K hK => ?_)
  go_simp
  refine hK.out _ _ (fun h => absurd h (by decide)) (fun _ => ?_)
  clear hK K
  try simp only [Act.put, List.setIfInBounds_toArray, List.set_cons_zero, List.set_cons_succ]
  refine Rest.one (i := 17) (by kernel_rfl) rfl (by rfl) (fun K hK => ?_)
  go_simp
  refine hK.out _ _ (fun h => absurd h (by decide)) (fun _ => ?_)
  clear hK K
  try simp only [Act.put, List.setIfInBounds_toArray, List.set_cons_zero, List.set_cons_succ]
  refine Rest.done (by kernel_rfl) ?_
  go_wp2
  go_end0
  have H2 : StAt base q w2 g (.slice (some ⟨jb, 0, none⟩) S.jobs.length cap) k { S with next := id + 1 } := ⟨box_is HC2.out rfl, H1.out.own.other H1.out.ne HO2.out rfl rfl rfl, HQ.out.2, H1.out.ne⟩
  obtain ⟨r6, g6⟩ := O6.out.stored (i * 4 + 3) (.int .i64 (tn + 1))
  rw [HROW.out] at r6
  have hg26 := grown_trans (grown_below (some jb) HBW.out) g6
  have hq6 := HQ.out
  have hbq : jb ≠ q := fun h => HNE.out.2.1 (by rw [h]; rfl)
  have hn6 : (w6.setCell ⟨jb, i * 4 + 3, none⟩ (.int .i64 (tn + 1))).heap[q]? = w2.heap[q]? := (set_other _ _ _ _ _ (fun h => hbq h.symm)).trans (HBW.out.block q (block_lt HC2.out))
  refine ⟨rfl, ⟨g, .slice (some ⟨jb, 0, none⟩) S.jobs.length cap, k, ?_⟩, ?_⟩
  · refine H2.newJobs (w' := w6.setCell ⟨jb, i * 4 + 3, none⟩ (.int .i64 (tn + 1))) hg26 ?_ (fun m hm => .inl hm) (fun m _ => rfl) (box_is (hn6.trans HC2.out) rfl) rfl rfl
    rw [List.length_set]
    have h8 := HTN.out
    simp only at h8 ⊢
    rw [h8]
    exact r6
  · exact B2.out.grown hg26 (by have := B2.out.size; have := HN2.out; omega) (fun m hm => (H2.own.oj.lt m hm).1)

theorem dec_started {e : EvS} (hev : evB e = true) (hk : e.kind = 1) {p : ProgS} {E : Nat} (h : DecEnd e.data p E) : p = progE e :=
  (progH_dec (l := [e]) rfl hev hk h).1

set_option maxHeartbeats 4000000 in
set_option maxRecDepth 100000 in
theorem change_1 {base q : Nat} {w : World} {g j k : Value} {S : StS} (h : StAt base q w g j k S) {e : EvS} (hev : evB e = true) (hk : e.kind = 1) (hS : S = StS.zero) (hds : e.data.size ≤ 140737488351232) :
    Calls Try.prog 17 #[.pointer (some ⟨q, 0, none⟩), e.val'] w fun x w' => x = .returned (.tuple #[]) ∧ (∃ g' j' k', StAt base q w' g' j' k' { StS.zero with prog := progE e, next := e.id + 1, began := e.tick, fresh := true }) ∧ Below base w w' := by
  have hid := ((evB_iff _).1 hev).id
  have htk := ((evB_iff _).1 hev).tick
  obtain ⟨id, kind, tick, ref, step, tryN, undo, data⟩ := e
  have HDS := Lib.hid (fun (p : ProgS) (E : Nat) (h : DecEnd data p E) => dec_started hev hk h)
  simp only at hid hk htk hds
  have HSZ := Lib.hid hS
  clear hS
  have HKD := Lib.hid hk
  obtain ⟨w1, hw1, b1, E1, hs1⟩ := evBoxed w ⟨id, kind, tick, ref, step, tryN, undo, data⟩
  have H0 := Lib.hid h
  have H1 := Lib.hid (h.later b1)
  have HE1 := Lib.hid E1
  have B1 := Lib.hid b1
  have HQ : Hid (q < w.heap.size ∧ base ≤ q) := ⟨h.box.lt, h.lo⟩
  have f3 := block_free H1.out.box.cells 3
  have q3 := (block_cell H1.out.box.cells 3).trans rfl
  obtain ⟨d0, d1, -⟩ := E1.c
  have hio : IntKind.i64.wrap (id + 1) = id + 1 := IntWalk.i64_in _ ⟨by omega, by omega⟩
  unfold EvS.val'
  simp only at hw1 d0 d1
  subst hk
  clear hev b1 E1 hs1 h
  go_enter Try.func17, Try.ntmps17
  go_upto_region 2 with (fail)
  obtain ⟨w2, hw2⟩ : ∃ w2, w1.setCell ⟨q, 3, none⟩ (.int .i64 (id + 1)) = w2 := ⟨_, rfl⟩
  have HO2 : Hid (∀ m, m ≠ q → w2.heap[m]? = w1.heap[m]?) := by refine Lib.hid ?_; rw [← hw2]; exact set_other _ _ _ _
  have HC2 : Hid (w2.heap[q]? = some (.cells #[g, .int .i64 S.prog.limit, .int .i64 S.status, .int .i64 (id + 1), .int .i64 S.began, .int .i64 S.asked, .int .i64 S.taken, .bool S.fresh, j, k, .bool S.cancel, .bool S.overdue] 30 (0, 0))) := by refine Lib.hid ?_; rw [← hw2]; exact cells_set H1.out.box.cells
  have B2 : Hid (Below base w w2) := by refine Lib.hid ?_; rw [← hw2]; exact (B1.out.mono (by have := HQ.out; omega)).setCell (p := ⟨q, 3, none⟩) HQ.out.2 _
  have HE2 : Hid (EvBox w2 w.heap.size ⟨id, 1, tick, ref, step, tryN, undo, data⟩) := (HO2.out _ (by have := HQ.out; omega)).trans HE1.out
  have HN2 : Hid (w2.heap.size = w1.heap.size ∧ w1.heap.size = w.heap.size + 1) := by refine Lib.hid ⟨?_, ?_⟩; (rw [← hw2]; simp [World.setCell]); (rw [← hw1]; simp)
  (try rw [hw2])
  clear hw2 f3 q3 d0 d1 hio
  obtain ⟨d0, d1, d2, d3, d4, d5, d6, d7⟩ := HE2.out.c
  have s0 := (block_cell HC2.out 0).trans rfl
  have s1 := (block_cell HC2.out 1).trans rfl
  have s2 := (block_cell HC2.out 2).trans rfl
  have s3 := (block_cell HC2.out 3).trans rfl
  have s4 := (block_cell HC2.out 4).trans rfl
  have s5 := (block_cell HC2.out 5).trans rfl
  have s6 := (block_cell HC2.out 6).trans rfl
  have s7 := (block_cell HC2.out 7).trans rfl
  have s8 := (block_cell HC2.out 8).trans rfl
  have s9 := (block_cell HC2.out 9).trans rfl
  have s10 := (block_cell HC2.out 10).trans rfl
  have s11 := (block_cell HC2.out 11).trans rfl
  have f0 := block_free HC2.out 0
  have f1 := block_free HC2.out 1
  have f2 := block_free HC2.out 2
  have f3 := block_free HC2.out 3
  have f4 := block_free HC2.out 4
  have f5 := block_free HC2.out 5
  have f6 := block_free HC2.out 6
  have f7 := block_free HC2.out 7
  have f8 := block_free HC2.out 8
  have f9 := block_free HC2.out 9
  have f10 := block_free HC2.out 10
  have f11 := block_free HC2.out 11
  simp only at d0 d1 d2 d3 d4 d5 d6 d7
  have HDO := Lib.hid (decode_own data hds w2)
  go_wp2_with fail
  refine HDO.out.mono ?_
  rintro x w3 ⟨a3, c3, p, E, rfl, r3, de, b3, o3, l3⟩
  have hp := HDS.out p E de
  have B3 := Lib.hid b3
  have HR3 := Lib.hid r3
  have HO3 := Lib.hid o3
  have HL3 := Lib.hid l3
  have HP := Lib.hid hp
  have hn3 := (b3.block q (block_lt HC2.out)).trans HC2.out
  have he3 := HE2.out.later b3
  have HN3 := Lib.hid hn3
  clear d0 d1 d2 d3 d4 d5 d6 d7 s0 s1 s2 s3 s4 s5 s6 s7 s8 s9 s10 s11 f0 f1 f2 f3 f4 f5 f6 f7 f8 f9 f10 f11
  obtain ⟨d0, d1, d2, d3, d4, d5, d6, d7⟩ := he3.c
  have s0 := (block_cell hn3 0).trans rfl
  have s1 := (block_cell hn3 1).trans rfl
  have s4 := (block_cell hn3 4).trans rfl
  have s7 := (block_cell hn3 7).trans rfl
  have f0 := block_free hn3 0
  have f1 := block_free hn3 1
  have f4 := block_free hn3 4
  have f7 := block_free hn3 7
  simp only at d0 d1 d2 d3 d4 d5 d6 d7
  unfold ProgS.val'
  clear hp r3 de b3 o3 l3 hn3 he3
  go_wp2
  go_end0
  have hS := HSZ.out
  have hq := HQ.out
  have hs2 := HN2.out
  have hbs := B3.out.size
  have ho := other_set (i := 7) (u := .bool true) (other_set (i := 4) (u := .int .i64 tick) (other_set (i := 1) (u := .int .i64 p.limit) (set_other w3 q 0 (.slice a3 p.steps.length c3))))
  have hc := cells_set (i := 7) (u := .bool true) (cells_set (i := 4) (u := .int .i64 tick) (cells_set (i := 1) (u := .int .i64 p.limit) (cells_set (i := 0) (u := .slice a3 p.steps.length c3) HN3.out)))
  have hne : (Value.slice a3 p.steps.length c3).ownBlock ≠ some q := fun h => by have := HL3.out q h; omega
  have hjl : ∀ m, j.ownBlock = some m → m < w1.heap.size := fun m hm => (H1.out.own.oj.lt m hm).2
  have hkl : ∀ m, k.ownBlock = some m → m < w1.heap.size := fun m hm => (H1.out.own.ok.lt m hm).2
  have rj := ownsRow_below (row_other H1.out.own.oj H1.out.ne.2.1 HO2.out) B3.out
  have rk := ownsRow_below (row_other H1.out.own.ok H1.out.ne.2.2 HO2.out) B3.out
  refine ⟨rfl, ⟨.slice a3 p.steps.length c3, j, k, ?_⟩, ((((B2.out.trans (B3.out.mono (by have := B2.out.size; omega))).setCell (p := ⟨q, 0, none⟩) HQ.out.2 _).setCell (p := ⟨q, 1, none⟩) HQ.out.2 _).setCell (p := ⟨q, 4, none⟩) HQ.out.2 _).setCell (p := ⟨q, 7, none⟩) HQ.out.2 _⟩
  show StAt base q _ _ j k { StS.zero with prog := progE ⟨id, 1, tick, ref, step, tryN, undo, data⟩, next := id + 1, began := tick, fresh := true }
  rw [← HP.out]
  have s1 := row_other (ownsRow_up HO3.out (base' := base) (fun m hm => by have := HL3.out m hm; omega)) hne ho
  have hoj := row_other rj H1.out.ne.2.1 ho
  have hok := row_other rk H1.out.ne.2.2 ho
  rw [hS] at hoj hok
  have hcc : (StBox _ q (.slice a3 p.steps.length c3) j k { StS.zero with prog := p, next := id + 1, began := tick, fresh := true }) := box_is hc (by rw [hS]; rfl)
  exact ⟨hcc, ⟨ReadG.own s1 HR3.out.2.1, s1, hoj, hok, ⟨fun m hm => ⟨fun h => by have := HL3.out m hm; have := hjl m h; omega, fun h => by have := HL3.out m hm; have := hkl m h; omega⟩, H1.out.own.ne.2⟩⟩, HQ.out.2, hne, H1.out.ne.2⟩
end Go.Proofs.Ytlkfpeefjpmmfaa

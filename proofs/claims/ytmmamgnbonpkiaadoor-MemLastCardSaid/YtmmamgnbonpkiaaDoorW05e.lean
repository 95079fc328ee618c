/- Layer 5: contract of insert. -/
import Derived.Test.YtmmamgnbonpkiaaDoorW05d
import Derived.Test.YtmmamgnbonpkiaaDoorR05c
import Derived.Deep.CutBlock
import Derived.Deep.CutRange
namespace Go.Proofs.YtmmamgnbonpkiaaDoor
open Go.RowKit Go.Maps Go.WideMaps
set_option linter.unusedVariables false

theorem Tab64.not {w : World} (h : Tab64 w) {p : Nat} {cs : Array Value} {t : TypeId} {f : Nat × Nat} (hp : w.heap[p]? = some (.cells cs t f)) (hs : cs.size ≠ 64) : p ≠ 0 := by
  rintro rfl
  unfold Tab64 Lib.TabIs World.var? at h
  rw [tab64_named] at h
  simp only [Option.bind_some, hp] at h
  injection h with h
  apply hs
  rw [h]
  simp [tab64_len]
theorem Tab64.turn {F : Nat → Prop} {w w' : World} (h : Tab64 w) (t : Turn F w w') (hF : ¬ F 0) : Tab64 w' := by
  unfold Tab64 Lib.TabIs World.var? at *
  rw [tab64_named] at h ⊢
  simp only [Option.bind_some] at h ⊢
  have hlt : 0 < w.heap.size := by
    rcases Nat.lt_or_ge 0 w.heap.size with h' | h'
    · exact h'
    · rw [Array.getElem?_eq_none h'] at h; simp at h
  rw [t.block _ hlt hF]
  exact h

section
variable {F G : Nat → Prop} {w w' : World} {p q j pl : Nat} {N : List NodeS} {c s : Int} {L L' : Nat → Nat → Option Nat} {x y : NodeS}
theorem withNode_blk (hpl : pl ≤ N.length) (hq : q ≤ pl) (x : NodeS) : blkAt p (withNode N pl x) q = blkAt p N q := by
  cases q with
  | zero => rfl
  | succ i =>
    show ((withNode N pl x)[i]?.map NodeS.blk).getD 0 = (N[i]?.map NodeS.blk).getD 0
    rw [withNode_at hpl, if_pos (by omega)]
theorem withNode_new (hpl : pl ≤ N.length) (x : NodeS) : blkAt p (withNode N pl x) (pl + 1) = x.blk := by
  show ((withNode N pl x)[pl]?.map NodeS.blk).getD 0 = x.blk
  rw [withNode_at hpl, if_neg (by omega), if_pos rfl]; rfl
theorem SkipL.high (h : SkipL w p (withNode N pl x) c s F L) (hb : y.blk = x.blk) (hp : y.pr = x.pr) : SkipL w p (withNode N pl y) c s F L := by
  have e : (withNode N pl y).map (fun z => (z.blk, z.pr)) = (withNode N pl x).map (fun z => (z.blk, z.pr)) := by
    unfold withNode
    simp [hb, hp]
  have hl : (withNode N pl y).length = (withNode N pl x).length := by
    have := congrArg List.length e
    simpa using this
  have hm : (withNode N pl y).map NodeS.blk = (withNode N pl x).map NodeS.blk := by
    unfold withNode
    simp [hb]
  have hat : ∀ i (h1 : i < (withNode N pl y).length), (withNode N pl y)[i].blk = ((withNode N pl x)[i]'(by omega)).blk ∧ (withNode N pl y)[i].pr = ((withNode N pl x)[i]'(by omega)).pr := fun i h1 => by
    have := congrArg (fun l => l[i]?) e
    simp only [List.getElem?_map, List.getElem?_eq_getElem h1, List.getElem?_eq_getElem (show i < (withNode N pl x).length by omega), Option.map_some, Option.some.injEq, Prod.mk.injEq] at this
    exact this
  refine ⟨h.head, fun i hi => ?_, h.fp, fun z hz => ?_, by rw [hm]; exact h.apart⟩
  · obtain ⟨a, b⟩ := hat i hi
    obtain ⟨cs, h1, h2, h3, h4, h5, h6⟩ := h.node i (by omega)
    exact ⟨cs, by rw [a]; exact h1, h2, by rw [b]; exact h3, by rw [b]; exact h4, by rw [b]; exact h5, h6⟩
  · obtain ⟨i, hi, rfl⟩ := List.mem_iff_getElem.1 hz
    rw [(hat i hi).1]
    exact h.fn _ (List.getElem_mem _)
/-- The new node on one level more. -/
theorem Skip.up (hpl : pl ≤ N.length) (h : Skip w p (withNode N pl x) c s F) {lv : Nat} (hx : x.high = lv) (hlv : lv < 12) :
    Skip ((w.setCell ⟨x.blk, 3 + lv, none⟩ (ptrV (nxL lv (N.drop pl)))).setCell ⟨blkAt p N (lastOn lv N pl), 3 + lv, none⟩ (ptrV (some x.blk))) p (withNode N pl { x with high := lv + 1 }) c s F := by
  have hq := lastOn_le lv N pl
  have hlen := withNode_len hpl x
  have h1 := SkipL.setLink h (q := pl + 1) (j := lv) (by omega) hlv (nxL lv (N.drop pl))
  rw [withNode_new hpl] at h1
  have h2 := SkipL.setLink h1 (q := lastOn lv N pl) (j := lv) (by omega) hlv (some x.blk)
  rw [withNode_blk hpl hq] at h2
  refine SkipL.congr (SkipL.high (y := { x with high := lv + 1 }) h2 rfl rfl) (fun q _ j _ => ?_)
  rw [lkAt_up hpl (x := x) (y := { x with high := lv + 1 }) rfl hx rfl q j]
end

/-- What the last node ahead of it leads to. -/
theorem Skip.ahead {w : World} {p pl : Nat} {N : List NodeS} {c s : Int} {F : Nat → Prop} {x : NodeS} (hpl : pl ≤ N.length) (h : Skip w p (withNode N pl x) c s F) {lv : Nat} (hx : x.high = lv) (hlv : lv < 12) :
    w.cell? ⟨blkAt p N (lastOn lv N pl), 3 + lv, none⟩ = some (ptrV (nxL lv (N.drop pl))) := by
  have hq := lastOn_le lv N pl
  have h1 := SkipL.link h (q := lastOn lv N pl) (by rw [withNode_len hpl]; omega) hlv
  rw [withNode_blk hpl hq] at h1
  have ho : onB (withNode N pl x) (lastOn lv N pl) lv := by rw [onB_with hpl, if_pos hq]; exact lastOn_on lv N pl
  rw [lkAt_on ho, nxL_with_low hpl (by omega) (pl - lastOn lv N pl) _ (by omega), nxL_of_gap hq (lastOn_gap lv N pl)] at h1
  exact h1

/-- The cells of a new node. -/
def newCells (k : ByteArray) : Array Value := #[.string k, .string ⟨#[]⟩, .bool false, .pointer none, .pointer none, .pointer none, .pointer none, .pointer none, .pointer none, .pointer none, .pointer none, .pointer none, .pointer none, .pointer none, .pointer none]
theorem newCells_nil (k : ByteArray) : ∀ j, j < 12 → (newCells k)[3 + j]? = some (ptrV none)
  | 0, _ | 1, _ | 2, _ | 3, _ | 4, _ | 5, _ | 6, _ | 7, _ | 8, _ | 9, _ | 10, _ | 11, _ => rfl

set_option maxHeartbeats 4000000 in
set_option maxRecDepth 100000 in
theorem insert_any {w : World} {p : Nat} {l : List PairS} {F : Nat → Prop} {N : List NodeS} (h : TabP w p l F N) (hT : Tab64 w) (k : ByteArray) (hk : k.size ≤ 64) (hl1 : l.length < 3518437208880) (hl2 : sizeP l ≤ 36028797018963968) (B : Nat → Nat) (hB : ∀ j, j < 12 → B j = blkAt p N (lastOn j N (placeP k l))) :
    Calls Tryd.prog 21 #[.pointer (some ⟨p, 0, none⟩), befV B, .string k] w fun e w' => ∃ nb hg, e = .returned (.pointer (some ⟨nb, 0, none⟩)) ∧ 1 ≤ hg ∧ w.heap.size ≤ nb ∧
      Skip w' p (withNode N (placeP k l) ⟨nb, ⟨k, ⟨#[]⟩, false⟩, hg⟩) ((l.length : Nat) + 1) ((sizeP l : Nat) + (k.size : Nat)) (Grown F w w') ∧ Turn F w w' := by
  have hle := placeP_le k l
  rw [← h.len] at hle
  generalize hpl : placeP k l = pl at *
  have HP := Lib.hid hpl
  have HB := Lib.hid hB
  clear hpl hB
  -- ahead of the walk: the worlds up to the loop
  have hpo : w.heap[p]?.isSome := by obtain ⟨cs, h1, _⟩ := SkipL.head h.sk; rw [h1]; rfl
  have hng : p ≠ 0 := by obtain ⟨cs, h1, h2, _⟩ := SkipL.head h.sk; exact hT.not h1 (by omega)
  have hp0 : p < w.heap.size := SkipL.lt h.sk
  obtain ⟨c1, c2⟩ := SkipL.counts h.sk
  have f1 : ∀ i, w.frozen? ⟨p, i, none⟩ = false := SkipL.free h.sk (q := 0) (Nat.zero_le _)
  have f15 := f1 15
  have f16 := f1 16
  obtain ⟨w2, hw2⟩ : ∃ w2, ((w.setCell ⟨p, 15, none⟩ (.int .i64 ((l.length : Int) + 1))).setCell ⟨p, 16, none⟩ (.int .i64 ((sizeP l : Int) + (k.size : Int)))).alloc (.cells (arr12 B) 52) = w2 := ⟨_, rfl⟩
  have ha := (Below.refl _ ((w.setCell ⟨p, 15, none⟩ (.int .i64 ((l.length : Int) + 1))).setCell ⟨p, 16, none⟩ (.int .i64 ((sizeP l : Int) + (k.size : Int))))).alloc (Nat.le_refl _) (.cells (arr12 B) 52)
  have hs2 := (((SkipL.setCount h.sk ((l.length : Int) + 1)).setBytes ((sizeP l : Int) + (k.size : Int))).below ha)
  have hbox := heap_alloc_new ((w.setCell ⟨p, 15, none⟩ (.int .i64 ((l.length : Int) + 1))).setCell ⟨p, 16, none⟩ (.int .i64 ((sizeP l : Int) + (k.size : Int)))) (.cells (arr12 B) 52)
  have ht2 : Turn (fun i => p = i) w w2 := by
    rw [← hw2]
    exact (((Turn.refl _ w).setCell (p := ⟨p, 15, none⟩) (.inl rfl) _).setCell (p := ⟨p, 16, none⟩) (.inl rfl) _).alloc _
  have hsz : ((w.setCell ⟨p, 15, none⟩ (.int .i64 ((l.length : Int) + 1))).setCell ⟨p, 16, none⟩ (.int .i64 ((sizeP l : Int) + (k.size : Int)))).heap.size = w.heap.size := by simp [World.setCell]
  rw [hsz] at hbox
  rw [hw2] at hs2 hbox
  have HS2 := Lib.hid hs2
  have HBOX := Lib.hid hbox
  have HT2 := Lib.hid ht2
  clear hs2 hbox ha f1 ht2
  unfold befV
  unfold arr12 at *
  go_enter Tryd.func21, Tryd.ntmps21
  go_upto_region 3 with (fail)
  clear c1 c2 f15 f16
  go_wp2_with fail
  refine (clone_any k _ (by omega)).mono ?_
  rintro e w3 ⟨rfl, b3⟩
  have g3 := b3.size
  have H3 := Lib.hid b3
  clear b3
  go_upto_region 4 with (fail)
  have hnew := heap_alloc_new w3 (.cells (newCells k) 54)
  have hb4 := (Below.refl _ w3).alloc (Nat.le_refl _) (.cells (newCells k) 54)
  have hs4 : Skip (w3.alloc (.cells (newCells k) 54)) p (withNode N pl ⟨w3.heap.size, ⟨k, ⟨#[]⟩, false⟩, 0⟩) ((l.length : Int) + 1) ((sizeP l : Int) + (k.size : Int)) (Grown F w (w3.alloc (.cells (newCells k) 54))) := by
    have g2 := HT2.out.size
    refine SkipL.congr (SkipL.addNode (HS2.out.below H3.out) hle (x := ⟨w3.heap.size, ⟨k, ⟨#[]⟩, false⟩, 0⟩) (Nat.le_refl _) hnew hb4 (fun i hi => .inl hi) (.inr ⟨by show w.heap.size ≤ w3.heap.size; omega, by simp⟩) rfl rfl rfl rfl (newCells_nil k)) (fun q hq j hj => ?_)
    rw [lkAt_new hle rfl]
  have ht4 : Turn (fun i => p = i) w (w3.alloc (.cells (newCells k) 54)) := (HT2.out.trans (Turn.of_below (fun _ => False) H3.out) (fun i hi => hi.elim)).alloc _
  have hbox4 : (w3.alloc (.cells (newCells k) 54)).heap[w.heap.size]? = some (.cells (arr12 B) 52 (0, 0)) := (hb4.block _ (by have := block_lt HBOX.out; omega)).trans ((H3.out.block _ (block_lt HBOX.out)).trans HBOX.out)
  have hbb : w.heap.size < w3.heap.size := by have := block_lt HBOX.out; omega
  clear hnew hb4 hw2 HS2 HT2 HBOX H3
  show Code.wp _ _ _ _ (w3.alloc (.cells (newCells k) 54))
  generalize hnb : w3.heap.size = nb at *
  generalize w3.alloc (.cells (newCells k) 54) = w4 at *
  clear hnb g3 w3 w2
  have HTT := hT.turn ht4 hng
  obtain ⟨c3, c4⟩ := SkipL.counts hs4
  have HX4 := Lib.hid hs4
  have HU4 := Lib.hid ht4
  have HB4 := Lib.hid hbox4
  clear hs4 ht4 hbox4
  go_wp2_with fail
  refine (height_any HTT _).mono ?_
  rintro e w5 ⟨hg, g1, g2, rfl, rfl⟩
  clear c3 c4 HTT
  have HFp := Lib.hid (SkipL.fp h.sk)
  have HFn := Lib.hid (SkipL.fn h.sk)
  have HLT : Hid (∀ q, q ≤ N.length → blkAt p N q < w.heap.size) := fun q hq => by obtain ⟨cs, t, h1, _⟩ := SkipL.blk h.sk hq; exact block_lt h1
  clear h hp0 hpo hng hT
  go_wp2
  go_loopw [35] (fun iv wr => ∃ m : Nat, m ≤ hg ∧ iv = .int .i64 (m : Int) ∧ Hid (Skip wr p (withNode N pl ⟨nb, ⟨k, ⟨#[]⟩, false⟩, m⟩) ((l.length : Int) + 1) ((sizeP l : Int) + (k.size : Int)) (Grown F w w5) ∧ Turn F w wr ∧ w5.heap.size ≤ wr.heap.size ∧ wr.heap[w.heap.size]? = some (.cells (arr12 B) 52 (0, 0)))) (fun iv _ => hg - (intOf iv).toNat)
  case atStart => exact ⟨0, by omega, rfl, HX4.out, HU4.out.mono (fun i hi => .inl (hi ▸ HFp.out)), Nat.le_refl _, HB4.out⟩
  case round =>
    obtain ⟨m, hm, rfl, HR⟩ := hrel
    clear HX4 HU4 HB4
    by_cases hlt : m < hg
    · have hm12 : m < 12 := by omega
      have hbx : wr.cell? ⟨w.heap.size, m, none⟩ = some (.pointer (some ⟨B m, 0, none⟩)) := by
        rw [block_cell HR.out.2.2.2]
        match m, hm12 with
        | 0, _ | 1, _ | 2, _ | 3, _ | 4, _ | 5, _ | 6, _ | 7, _ | 8, _ | 9, _ | 10, _ | 11, _ => rfl
      have hlk := Skip.ahead hle HR.out.1 rfl hm12
      rw [← HB.out m hm12] at hlk
      obtain ⟨o, ho⟩ : ∃ o, ptrV (nxL m (N.drop pl)) = .pointer o := ⟨_, rfl⟩
      rw [ho] at hlk
      have hq0 := lastOn_le m N pl
      have hwl : (withNode N pl ⟨nb, ⟨k, ⟨#[]⟩, false⟩, m⟩).length = N.length + 1 := withNode_len hle _
      have hf1 := SkipL.free HR.out.1 (q := pl + 1) (by omega) (3 + m)
      have hc1 := SkipL.link HR.out.1 (q := pl + 1) (j := m) (by omega) hm12
      rw [withNode_new hle] at hf1 hc1
      have hf2 := SkipL.free HR.out.1 (q := lastOn m N pl) (by omega) (3 + m)
      rw [withNode_blk hle hq0, ← HB.out m hm12] at hf2
      have hne : B m ≠ nb := by
        intro e
        have := blkAt_inj (SkipL.apart HR.out.1) (q := lastOn m N pl) (r := pl + 1) (by omega) (by omega) (by rw [withNode_blk hle hq0, withNode_new hle, ← HB.out m hm12]; exact e)
        omega
      have hne2 : nb ≠ B m := fun e => hne e.symm
      have hFB : Hid (F (B m)) := by
        show F _
        rw [HB.out m hm12]
        exact blkAt_mem HFp.out HFn.out (by omega)
      have HUP := Lib.hid (Skip.up hle HR.out.1 (lv := m) rfl hm12)
      rw [ho, ← HB.out m hm12] at HUP
      simp only at hf1 hc1
      clear ho hq0 hwl
      go_wp2
      go_region
      all_goals go_wp2
      refine ⟨⟨m + 1, by omega, rfl, ?_⟩, by simp [intOf]; omega⟩
      obtain ⟨r1, r2, r3, r4⟩ := HR.out
      have hBl : B m < w.heap.size := by rw [HB.out m hm12]; exact HLT.out _ (Nat.le_trans (lastOn_le m N pl) hle)
      refine ⟨SkipL.kept HUP.out (fun _ _ => rfl), ((r2.setCell (p := ⟨nb, 3 + m, none⟩) (.inr (by show w.heap.size ≤ nb; omega)) _).setCell (p := ⟨B m, 3 + m, none⟩) (.inl hFB.out) _).drew, by simpa [World.setCell] using r3, ?_⟩
      show ((wr.setCell ⟨nb, 3 + m, none⟩ (.pointer o)).setCell ⟨B m, 3 + m, none⟩ (.pointer (some ⟨nb, 0, none⟩))).heap[w.heap.size]? = _
      rw [heap_set_other (by omega), heap_set_other (by omega)]
      exact r4
    · obtain rfl : m = hg := by omega
      go_wp2
      go_ret
      obtain ⟨r1, r2, r3, r4⟩ := HR.out
      exact ⟨nb, m, rfl, g1, by omega, SkipL.mono r1 (fun i hi => hi.imp id (fun hi => ⟨hi.1, by omega⟩)), r2⟩
end Go.Proofs.YtmmamgnbonpkiaaDoor

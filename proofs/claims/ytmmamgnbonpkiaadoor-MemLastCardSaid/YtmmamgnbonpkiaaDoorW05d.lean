/- Layer 5: contracts of first, Get. -/
import Derived.Test.YtmmamgnbonpkiaaDoorW05c
namespace Go.Proofs.YtmmamgnbonpkiaaDoor
open Go.RowKit Go.Maps Go.WideMaps
set_option linter.unusedVariables false

/-- The block of the node at a place, if there is one. -/
theorem TabP.next0 {w : World} {p : Nat} {l : List PairS} {F : Nat → Prop} {N : List NodeS} (h : TabP w p l F N) (q : Nat) : nxL 0 (N.drop q) = N[q]?.map NodeS.blk := by
  by_cases hq : q < N.length
  · rw [nxL_here hq (h.hi _ (List.getElem_mem hq)), List.getElem?_eq_getElem hq]; rfl
  · rw [List.getElem?_eq_none (by omega), List.drop_of_length_le (by omega)]; rfl

theorem index12 (B : Nat → Nat) (w : World) : (Instr.index 52 (.agg #[.pointer (some ⟨B 0, 0, none⟩), .pointer (some ⟨B 1, 0, none⟩), .pointer (some ⟨B 2, 0, none⟩), .pointer (some ⟨B 3, 0, none⟩), .pointer (some ⟨B 4, 0, none⟩), .pointer (some ⟨B 5, 0, none⟩),
    .pointer (some ⟨B 6, 0, none⟩), .pointer (some ⟨B 7, 0, none⟩), .pointer (some ⟨B 8, 0, none⟩), .pointer (some ⟨B 9, 0, none⟩), .pointer (some ⟨B 10, 0, none⟩), .pointer (some ⟨B 11, 0, none⟩)]) (.int .i64 0)).run Tryd.prog w = .ok (.pointer (some ⟨B 0, 0, none⟩)) w := by
  simp [Instr.index, asIntOf, run_underlying Tryd.underlying52, part, go_sem]
set_option maxHeartbeats 2000000 in
set_option maxRecDepth 100000 in
theorem first_any {w : World} {p : Nat} {l : List PairS} {F : Nat → Prop} {N : List NodeS} (h : TabP w p l F N) (k : ByteArray) :
    Calls Tryd.prog 25 #[.pointer (some ⟨p, 0, none⟩), .string k] w fun e w' => e = .returned (ptrV (N[placeP k l]?.map NodeS.blk)) ∧ Below w.heap.size w w' := by
  have hle := placeP_le k l
  rw [← h.len] at hle
  obtain ⟨B, hB⟩ : ∃ B : Nat → Nat, ∀ j, j < 12 → B j = blkAt p N (lastOn j N (placeP k l)) := ⟨_, fun _ _ => rfl⟩
  have hb0 := hB 0 (by omega)
  rw [lastOn_zero (fun i hi => h.one (by omega))] at hb0
  have hl : Hid (∀ w', Below w.heap.size w w' → w'.cell? ⟨B 0, 3, none⟩ = some (ptrV (N[placeP k l]?.map NodeS.blk))) := fun w' hw => by
    have := SkipL.link (h.below hw).sk (q := placeP k l) (j := 0) hle (by omega)
    have hon : onB N (placeP k l) 0 := by
      by_cases e : placeP k l = 0
      · exact .inl e
      · have := h.one (i := placeP k l - 1) (by omega)
        exact .inr (by omega)
    rw [lkAt_on hon, h.next0] at this
    rw [hb0]; exact this
  have hc := before_any h k B hB
  unfold befV at hc
  obtain ⟨o, ho⟩ : ∃ o, ptrV (N[placeP k l]?.map NodeS.blk) = .pointer o := ⟨_, rfl⟩
  rw [ho] at hl ⊢
  clear hB hb0 ho h hle
  go_enter Tryd.func25, Tryd.ntmps25
  go_wp2_with fail
  refine hc.mono ?_
  rintro e w1 ⟨rfl, b1⟩
  have h1 := hl.out w1 b1
  have B1 := Lib.hid b1
  clear hc b1
  have hix := fun w => index12 B w
  go_wp2
  go_ret
  exact ⟨rfl, B1.out⟩

theorem placeP_key {w : World} {p : Nat} {l : List PairS} {F : Nat → Prop} {N : List NodeS} (h : TabP w p l F N) (k : ByteArray) :
    (N[placeP k l]? = none ∧ thereP k l = false) ∨ ∃ hi : placeP k l < N.length, thereP k l = decide (N[placeP k l].pr.key = k) ∧ N[placeP k l].pr = l[placeP k l]'(by rw [← h.len]; exact hi) := by
  by_cases hi : placeP k l < N.length
  · refine .inr ⟨hi, ?_, h.at hi⟩
    rw [h.at hi]
    exact thereP_of _ rfl
  · have := placeP_le k l
    rw [← h.len] at this
    exact .inl ⟨List.getElem?_eq_none (by omega), thereP_none (by rw [← h.len]; omega)⟩

set_option maxHeartbeats 2000000 in
set_option maxRecDepth 100000 in
theorem get_any {w : World} {p : Nat} {l : List PairS} {F : Nat → Prop} (ht : TabAt w p l F) (k : ByteArray) :
    Calls Tryd.prog 13 #[.pointer (some ⟨p, 0, none⟩), .string k] w fun e w' => e = .returned (.tuple #[((getP k l).getD zeroP).val', .bool (getP k l).isSome]) ∧ Below w.heap.size w w' := by
  obtain ⟨N, h⟩ := ht
  have ha := (Below.refl _ w).alloc (Nat.le_refl _) (.cells #[.string ⟨#[]⟩, .string ⟨#[]⟩, .bool false] 31)
  have hf := first_any (h.below ha) k
  have hs : (w.alloc (.cells #[.string ⟨#[]⟩, .string ⟨#[]⟩, .bool false] 31)).heap.size = w.heap.size + 1 := by simp
  have hn0 := heap_alloc_new w (.cells #[.string ⟨#[]⟩, .string ⟨#[]⟩, .bool false] 31)
  rcases placeP_key h k with ⟨e1, e2⟩ | ⟨hi, e2, e3⟩
  · have HG : Hid (getP k l = none) := by
      show _ = _
      unfold getP; rw [e2]; rfl
    rw [e1] at hf
    have hf' : Calls Tryd.prog 25 #[.pointer (some ⟨p, 0, none⟩), .string k] (w.alloc (.cells #[.string ⟨#[]⟩, .string ⟨#[]⟩, .bool false] 31)) fun e w' => e = .returned (.pointer none) ∧ Hid (Below (w.heap.size + 1) (w.alloc (.cells #[.string ⟨#[]⟩, .string ⟨#[]⟩, .bool false] 31)) w') := hf.mono fun e w' hh => ⟨hh.1, by rw [← hs]; exact hh.2⟩
    have HA := Lib.hid ha
    have HN := Lib.hid hn0
    rw [HG.out]
    clear hf h e1 e2 ha hn0
    go_enter Tryd.func13, Tryd.ntmps13
    go_wp2_with fail
    refine hf'.mono ?_
    rintro r w1 ⟨rfl, B1⟩
    have hn1 := (B1.out.block w.heap.size (by omega)).trans HN.out
    have k0 : w1.cell? ⟨w.heap.size, 0, none⟩ = some (.string ⟨#[]⟩) := by rw [block_cell hn1]; rfl
    have k1 : w1.cell? ⟨w.heap.size, 1, none⟩ = some (.string ⟨#[]⟩) := by rw [block_cell hn1]; rfl
    have k2 : w1.cell? ⟨w.heap.size, 2, none⟩ = some (.bool false) := by rw [block_cell hn1]; rfl
    have kf := block_free hn1
    have kf0 := kf 0
    have kf1 := kf 1
    have kf2 := kf 2
    have BB := Lib.hid (HA.out.trans (B1.out.mono (by omega)))
    clear hn1 hs
    go_wp2
    (try simp only [Exit.inBlock, Exit.then])
    refine bodyPost_ret (v := .tuple #[zeroP.val', .bool false]) ?_ rfl ⟨rfl, ?_⟩
    · rw [results_cell_tmp rfl]
      go_simp
      rfl
    · exact ((BB.out.setCell (Nat.le_refl _) _).setCell (Nat.le_refl _) _).setCell (Nat.le_refl _) _
  · rw [List.getElem?_eq_getElem hi] at hf
    have hx : Hid (∀ w', Below (w.heap.size + 1) (w.alloc (.cells #[.string ⟨#[]⟩, .string ⟨#[]⟩, .bool false] 31)) w' → w'.cell? ⟨N[placeP k l].blk, 0, none⟩ = some (.string N[placeP k l].pr.key) ∧ w'.cell? ⟨N[placeP k l].blk, 1, none⟩ = some (.string N[placeP k l].pr.val) ∧ w'.cell? ⟨N[placeP k l].blk, 2, none⟩ = some (.bool N[placeP k l].pr.gone)) := fun w' hw => SkipL.key ((h.below ha).below (by rw [hs]; exact hw)).sk hi
    have hlt : N[placeP k l].blk < w.heap.size := SkipL.nlt h.sk (List.getElem_mem hi)
    have HG : Hid (getP k l = if N[placeP k l].pr.key = k then some N[placeP k l].pr else none) := by
      show _ = _
      unfold getP
      rw [e2, e3, List.getElem?_eq_getElem (by rw [← h.len]; exact hi)]
      by_cases hk : (l[placeP k l]'(by rw [← h.len]; exact hi)).key = k
      · rw [if_pos hk, if_pos (decide_eq_true hk)]
      · rw [if_neg hk, if_neg (by simpa using hk)]
    have hf' : Calls Tryd.prog 25 #[.pointer (some ⟨p, 0, none⟩), .string k] (w.alloc (.cells #[.string ⟨#[]⟩, .string ⟨#[]⟩, .bool false] 31)) fun e w' => e = .returned (.pointer (some ⟨N[placeP k l].blk, 0, none⟩)) ∧ Hid (Below (w.heap.size + 1) (w.alloc (.cells #[.string ⟨#[]⟩, .string ⟨#[]⟩, .bool false] 31)) w') := hf.mono fun e w' hh => ⟨hh.1, by rw [← hs]; exact hh.2⟩
    have HA := Lib.hid ha
    have HN := Lib.hid hn0
    rw [HG.out]
    clear hf h e2 e3 ha hn0 HG
    generalize N[placeP k l] = x at *
    obtain ⟨bk, ⟨xk, xv, xg⟩, xh⟩ := x
    simp only at *
    by_cases hk : xk = k
    · subst hk
      rw [if_pos rfl]
      have hkk : (xk.toList == xk.toList) = true := by simp
      go_enter Tryd.func13, Tryd.ntmps13
      go_wp2_with fail
      refine hf'.mono ?_
      rintro r w1 ⟨rfl, B1⟩
      obtain ⟨x0, x1, x2⟩ := hx.out w1 B1.out
      have hn1 := (B1.out.block w.heap.size (by omega)).trans HN.out
      have k0 : w1.cell? ⟨w.heap.size, 0, none⟩ = some (.string ⟨#[]⟩) := by rw [block_cell hn1]; rfl
      have k1 : w1.cell? ⟨w.heap.size, 1, none⟩ = some (.string ⟨#[]⟩) := by rw [block_cell hn1]; rfl
      have k2 : w1.cell? ⟨w.heap.size, 2, none⟩ = some (.bool false) := by rw [block_cell hn1]; rfl
      have kf := block_free hn1
      have kf0 := kf 0
      have kf1 := kf 1
      have kf2 := kf 2
      have BB := Lib.hid (HA.out.trans (B1.out.mono (by omega)))
      clear hn1 hs
      go_wp2
      (try simp only [Exit.inBlock, Exit.then])
      refine bodyPost_ret (v := .tuple #[.agg #[.string xk, .string xv, .bool xg], .bool true]) ?_ rfl ⟨rfl, ?_⟩
      · rw [results_cell_tmp rfl]
        go_simp
      · exact ((BB.out.setCell (Nat.le_refl _) _).setCell (Nat.le_refl _) _).setCell (Nat.le_refl _) _
    · rw [if_neg hk]
      have hkk : (xk.toList == k.toList) = false := by rw [keyEq]; simpa using hk
      go_enter Tryd.func13, Tryd.ntmps13
      go_wp2_with fail
      refine hf'.mono ?_
      rintro r w1 ⟨rfl, B1⟩
      obtain ⟨x0, x1, x2⟩ := hx.out w1 B1.out
      have hn1 := (B1.out.block w.heap.size (by omega)).trans HN.out
      have k0 : w1.cell? ⟨w.heap.size, 0, none⟩ = some (.string ⟨#[]⟩) := by rw [block_cell hn1]; rfl
      have k1 : w1.cell? ⟨w.heap.size, 1, none⟩ = some (.string ⟨#[]⟩) := by rw [block_cell hn1]; rfl
      have k2 : w1.cell? ⟨w.heap.size, 2, none⟩ = some (.bool false) := by rw [block_cell hn1]; rfl
      have kf := block_free hn1
      have kf0 := kf 0
      have kf1 := kf 1
      have kf2 := kf 2
      have BB := Lib.hid (HA.out.trans (B1.out.mono (by omega)))
      clear hn1 hs
      go_wp2
      (try simp only [Exit.inBlock, Exit.then])
      refine bodyPost_ret (v := .tuple #[zeroP.val', .bool false]) ?_ rfl ⟨rfl, ?_⟩
      · rw [results_cell_tmp rfl]
        go_simp
        rfl
      · exact ((BB.out.setCell (Nat.le_refl _) _).setCell (Nat.le_refl _) _).setCell (Nat.le_refl _) _
end Go.Proofs.YtmmamgnbonpkiaaDoor

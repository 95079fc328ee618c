/- Layer 8: the walk of MergeNested, whatever the merge. -/
import Derived.Test.YtebiipmaimdocaaK08a
import Derived.Test.YtebiipmaimdocaaK08b
import Derived.Deep.QuietTactic
import Derived.BigQuiet
import Derived.Deep.Cut
import Derived.Deep.RegionHeld3
namespace Go.Proofs.Ytebiipmaimdocaa
open Go.RowKit Go.Maps Go.WideMaps Go.Shelf
set_option linter.unusedVariables false

theorem slLists : Try.prog.underlying 22 = some (.slice (Try.prog.elem 22)) := by kernel_rfl
theorem szLists (w : World) : (sizeOf (Try.prog.elem 22)).run Try.prog w = .ok 1 w := by kernel_rfl
/-- A row of lists, cut in two. -/
theorem cut8 {w : World} {base : Nat} {v : Value} {xs : List Value} {L : List (List PairS)} (h : OwnL w base v xs L) {k : Nat} (hk : k ≤ L.length) :
    ∃ a1 c1 a2 c2, (∀ wx, (Instr.slice 22 v none (some (.int .i64 (k : Int))) none).run Try.prog wx = .ok (.slice a1 (L.take k).length c1) wx) ∧ (∀ wx, (Instr.slice 22 v (some (.int .i64 (k : Int))) none none).run Try.prog wx = .ok (.slice a2 (L.drop k).length c2) wx) ∧
      ∀ w', Below w.heap.size w w' → ReadT (fun _ => True) w' (.slice a1 (L.take k).length c1) (L.take k) ∧ ReadT (fun _ => True) w' (.slice a2 (L.drop k).length c2) (L.drop k) := by
  have h1 : (L.take k).length = k := by rw [List.length_take]; omega
  have h2 : (L.drop k).length = L.length - k := List.length_drop
  rw [h1, h2]
  rcases h.row.2 with ⟨rfl, h0⟩ | ⟨g, cap, cur, rfl, _, hg, hle, hcm, _⟩
  · have hk0 : k = 0 := by omega
    subst hk0
    refine ⟨none, 0, none, 0, fun wx => ?_, fun wx => ?_, fun w' hw => ⟨?_, ?_⟩⟩
    · have := run_slice_h (P := Try.prog) (w := wx) 22 none 0 0 slLists .i64 0 (by omega) (by omega)
      rw [szLists] at this
      exact this
    · have := run_slice_l (P := Try.prog) (w := wx) 22 none 0 0 slLists .i64 0 (by omega) (by omega)
      rw [szLists] at this
      rw [h0]
      exact this
    · exact ⟨by simp, none, 0, by rw [h1], .inl rfl⟩
    · exact ⟨by omega, none, 0, by rw [h2], .inl (List.eq_nil_of_length_eq_zero (by omega))⟩
  · have hR : ∀ w', Below w.heap.size w w' → ∀ i (hi : i < L.length), ∃ u, w'.cell? ⟨g, i, none⟩ = some u ∧ w'.ownsRow 0 29 3 u L[i].length (rowP L[i]) ∧ ∀ k, u.ownBlock = some k → True := fun w' hw i hi => by
      have h3 := h.below hw
      obtain ⟨u, q1, q2⟩ := h3.each i hi
      exact ⟨u, (h3.row.cellAt i (by omega)).trans q1, q2, fun _ _ => trivial⟩
    refine ⟨some ⟨g, 0, none⟩, cap, if cap = k then some ⟨g, 0, none⟩ else some ⟨g, k, none⟩, cap - k, fun wx => ?_, fun wx => ?_, fun w' hw => ⟨?_, ?_⟩⟩
    · have := run_slice_h (P := Try.prog) (w := wx) 22 (some ⟨g, 0, none⟩) L.length cap slLists .i64 (k : Int) (by omega) (by omega)
      rw [szLists] at this
      rw [this]
      show Result.ok (sliced (some ⟨g, 0, none⟩) 0 ((k : Int).toNat) cap 1) wx = _
      unfold sliced
      simp [Addr.add]
    · have := run_slice_l (P := Try.prog) (w := wx) 22 (some ⟨g, 0, none⟩) L.length cap slLists .i64 (k : Int) (by omega) (by omega)
      rw [szLists] at this
      rw [this]
      show Result.ok (sliced (some ⟨g, 0, none⟩) ((k : Int).toNat) L.length cap 1) wx = _
      unfold sliced
      by_cases hk0 : k = 0
      · subst hk0; simp [Addr.add]
      · simp [Addr.add, hk0]
    · refine ⟨by unfold maxLen at hcm; omega, _, _, by rw [h1], .inr ⟨g, 0, rfl, fun i hi => ?_⟩⟩
      obtain ⟨u, q1, q2⟩ := hR w' hw i (by omega)
      rw [Nat.zero_add, List.getElem_take]
      exact ⟨u, q1, q2⟩
    · refine ⟨by unfold maxLen at hcm; omega, _, _, by rw [h2], ?_⟩
      by_cases hc : cap = k
      · exact .inl (List.eq_nil_of_length_eq_zero (by omega))
      · rw [if_neg hc]
        refine .inr ⟨g, k, rfl, fun i hi => ?_⟩
        obtain ⟨u, q1, q2⟩ := hR w' hw (k + i) (by omega)
        rw [List.getElem_drop]
        exact ⟨u, q1, q2⟩

/-- Where the law cuts. -/
theorem nest_key {n : Nat} (hm : n ≤ 4398046511104) (t : Int) : ∃ k : Nat, k ≤ n ∧ (wrap64 (wrap64 (t.tmod ((n : Int) + 1) + (n : Int)) + 1)).tmod ((n : Int) + 1) = (k : Int) := by
  have hp : (0 : Int) < (n : Int) + 1 := by omega
  have a1 := Int.lt_tmod_of_pos t hp
  have a2 := Int.tmod_lt_of_pos t hp
  rw [IntWalk.wrap64_in (t.tmod ((n : Int) + 1) + (n : Int)) (by omega), IntWalk.wrap64_in _ (by omega)]
  have hz : 0 ≤ t.tmod ((n : Int) + 1) + (n : Int) + 1 := by omega
  have b1 := Int.tmod_nonneg ((n : Int) + 1) hz
  have b2 := Int.tmod_lt_of_pos (t.tmod ((n : Int) + 1) + (n : Int) + 1) hp
  exact ⟨((t.tmod ((n : Int) + 1) + (n : Int) + 1).tmod ((n : Int) + 1)).toNat, by omega, by omega⟩
theorem GoodL.part {L : List (List PairS)} (h : GoodL L) (k : Nat) : GoodL (L.take k) ∧ GoodL (L.drop k) :=
  ⟨fun l hl => h l (List.mem_of_mem_take hl), fun l hl => h l (List.mem_of_mem_drop hl)⟩
theorem sumL8_part (L : List (List PairS)) (k : Nat) : sumL8 (L.take k) + sumL8 (L.drop k) = sumL8 L := by
  rw [← sumL8_append, List.take_append_drop]
theorem sumL8_two (a b : List PairS) : sumL8 [a, b] = a.length + b.length := by simp [sumL8]
theorem drawnBelow {W w : World} (h : Below W.heap.size W w) (n : Nat) : Below W.heap.size W (w.drewN n) := below_drewN h n

set_option maxHeartbeats 4000000 in
set_option maxRecDepth 100000 in
theorem nested8_walk (K : MergeK) (a0 : Option Addr) (c0 : Nat) (ls : List (List PairS)) (cut : Int) (w : World) (h0 : ReadL w (.slice a0 ls.length c0) ls) (hN : sumL8 ls + ls.length ≤ 274877906944) :
    Calls Try.prog 6 #[.slice a0 ls.length c0, .int .i64 cut] w fun e w' => e = .returned (.bool true) ∧ Below w.heap.size w w' := by
  have hor := fun w' (b : Below w.heap.size w w') => ordered_any (h0.below b) (by omega) (fun l hl => by have := sum_mem8 hl; omega)
  have hos := ordP_sum ls
  have hol := ordP_len ls
  have hgd := GoodL.ord ls
  generalize ordP ls = L at *
  have hLN : sumL8 L + L.length ≤ 274877906944 := by omega
  have hb2 : L.length ≤ 3518437208780 := by omega
  obtain ⟨k, hk, hkey⟩ := nest_key (n := L.length) (by omega) cut
  obtain ⟨hg1, hg2⟩ := hgd.part k
  have hs12 := sumL8_part L k
  have hq1 := allP_len (L.take k)
  have hq2 := allP_len (L.drop k)
  have hq3 := allP_len L
  have hq4 := sumL8_two (allP (L.take k)) (allP (L.drop k))
  have ht1 : (L.take k).length ≤ L.length := by rw [List.length_take]; omega
  have ht2 : (L.drop k).length ≤ L.length := by rw [List.length_drop]; omega
  have hn1 : (L.take k).length ≤ 3518437208780 := by omega
  have hn2 : (L.drop k).length ≤ 3518437208780 := by omega
  have hm1 : sumL8 (L.take k) + (L.take k).length ≤ 1099511627776 := by omega
  have hm2 : sumL8 (L.drop k) + (L.drop k).length ≤ 1099511627776 := by omega
  have hm3 : sumL8 [allP (L.take k), allP (L.drop k)] + [allP (L.take k), allP (L.drop k)].length ≤ 1099511627776 := by rw [hq4]; simp only [List.length_cons, List.length_nil]; omega
  have hm4 : sumL8 L + L.length ≤ 1099511627776 := by omega
  have hp3 : (allP L).length ≤ 3518437208780 := by omega
  have hgg := GoodL.two (L.take k) (L.drop k)
  have hpp := allP_parts hgd k
  have hct := fun w base v xs (h : OwnL w base v xs L) => cut8 h hk
  have HCT := Lib.hid hct
  have HOR := Lib.hid hor
  have HGD := Lib.hid hgd
  have HG1 := Lib.hid hg1
  have HG2 := Lib.hid hg2
  have HGG := Lib.hid hgg
  have HPP := Lib.hid hpp
  clear hor h0 hgd hos hol hN hg1 hg2 hgg hpp hs12 hq1 hq2 hq3 hq4 ht1 ht2 hct
  go_enter Try.func6, Try.ntmps6
  go_wp2_with fail
  refine (awake8_any K _).mono ?_
  rintro e w1 ⟨rfl, b1⟩
  have B1 := Lib.hid b1
  clear b1
  go_wp2_with fail
  refine (HOR.out w1 B1.out).mono ?_
  rintro e w2 ⟨v, xs, rfl, o2, b2⟩
  have B2 := Lib.hid (B1.out.trans (b2.mono B1.out.size))
  obtain ⟨va, vc, rfl⟩ := row_slice o2.row
  obtain ⟨x1, y1, x2, y2, hc1, hc2, hrt⟩ := HCT.out _ _ _ _ o2
  have O2 := Lib.hid o2
  have HRT := Lib.hid hrt
  clear b2 o2 HOR HCT hrt
  go_wp2_with fail
  clear hkey hk
  generalize L.take k = L1 at *
  generalize L.drop k = L2 at *
  go_region_held3 (fun _ => True) (exact trivial)
    (first
    | (go_at_call 13; have hx := SA; clear hx; refine (seqs_any (HRT.out _ (by repeat (first | exact BA.out | exact Below.refl _ _ | apply Below.drew))).2 hn2).mono ?_; rintro e wC ⟨vC, xsC, rfl, oC, bC⟩; have BC : Hid (Below w2.heap.size w2 wC) := below_next (by repeat (first | exact BA.out | apply Below.drew)) (Nat.le_refl _) bC; obtain ⟨GC, gC⟩ := oC.seqs; have SC := Lib.hid gC; obtain ⟨aC, cC, rfl⟩ := row_slice oC.row; have SA2 := Lib.hid ((SA.out.below (by repeat (first | exact Below.refl _ _ | apply Below.drew))).below bC); clear oC gC bC)
    | (go_at_call 13; refine (seqs_any (HRT.out _ (by repeat (first | exact Below.refl _ _ | apply Below.drew))).1 hn1).mono ?_; rintro e w3 ⟨v3, xs3, rfl, o3, b3⟩; have B3 : Hid (Below w2.heap.size w2 w3) := below_next (by repeat (first | exact Below.refl _ _ | apply Below.drew)) (Nat.le_refl _) b3; obtain ⟨G3, g3⟩ := o3.seqs; have S3 := Lib.hid g3; obtain ⟨a3, c3, rfl⟩ := row_slice o3.row; clear o3 g3 b3)
    | (go_at_call 12; have hx := SC; clear hx; refine (K.all (SC.out.below (by repeat (first | exact Below.refl _ _ | apply Below.drew))) HG2.out hm2).mono ?_; rintro e wD ⟨gD, lbD, GD, rfl, sD, bD, -⟩; have BD : Hid (Below w2.heap.size w2 wD) := below_next (by repeat (first | exact BC.out | apply Below.drew)) (Nat.le_refl _) bD; have SD := Lib.hid sD; have SA3 := Lib.hid ((SA2.out.below (by repeat (first | exact Below.refl _ _ | apply Below.drew))).below bD); clear sD bD)
    | (go_at_call 12; refine (K.all (S3.out.below (by repeat (first | exact Below.refl _ _ | apply Below.drew))) HG1.out hm1).mono ?_; rintro e wA ⟨gA, lbA, GA, rfl, sA, bA, -⟩; have BA : Hid (Below w2.heap.size w2 wA) := below_next (by repeat (first | exact B3.out | apply Below.drew)) (Nat.le_refl _) bA; have SA := Lib.hid sA; clear sA bA)
    )
  all_goals
    have OD := Lib.hid (O2.out.below BD.out)
    have ED := Lib.hid (B2.out.trans (BD.out.mono B2.out.size))
    have b5 : Below wD.heap.size wD (wD.alloc (.cells #[.func (.func gA) #[] lbA, .func (.func gD) #[] lbD] 31)) := (Below.refl _ wD).alloc (Nat.le_refl _) _
    have n5 := heap_alloc_new wD (.cells #[.func (.func gA) #[] lbA, .func (.func gD) #[] lbD] 31)
    have hsz : (wD.alloc (.cells #[.func (.func gA) #[] lbA, .func (.func gD) #[] lbD] 31)).heap.size = wD.heap.size + 1 := by simp
    have hin : SeqsIn (wD.alloc (.cells #[.func (.func gA) #[] lbA, .func (.func gD) #[] lbD] 31)) (.slice (some ⟨wD.heap.size, 0, none⟩) 2 2) [allP L1, allP L2] (fun j => j < wD.heap.size + 1) := by
      refine ⟨fun j hj => by omega, by simp, _, _, rfl, ⟨by simp, by decide⟩, .inr ⟨wD.heap.size, 0, rfl, by omega, fun i hi => ?_⟩⟩
      rw [block_cell n5]
      match i, hi with
      | 0, _ => exact ⟨_, _, rfl, SA3.out.below b5, fun j hj => by have := SA3.out.func.2.2 j hj; omega⟩
      | 1, _ => exact ⟨_, _, rfl, SD.out.below b5, fun j hj => by have := SD.out.func.2.2 j hj; omega⟩
    have hall := K.all (a := some ⟨wD.heap.size, 0, none⟩) (c := 2) (ls := [allP L1, allP L2]) hin HGG.out hm3
    rw [HPP.out] at hall
    have HALL := Lib.hid hall
    have EE := Lib.hid (ED.out.trans (b5.mono ED.out.size))
    have OE := Lib.hid (OD.out.below b5)
    clear b5 n5 hsz hin SA3 SD SA SA2 SC S3 hc1 hc2 hall
    go_wp2_with fail
    refine HALL.out.mono ?_
    rintro e wF ⟨gF, lbF, GF, rfl, sF, bF, -⟩
    have EF := Lib.hid (EE.out.trans (bF.mono EE.out.size))
    have OF := Lib.hid (OE.out.below bF)
    have hcol := made_collect sF hp3
    clear bF sF
    go_wp2_with fail
    refine hcol.mono ?_
    rintro e wG ⟨aG, cG, rfl, rG, bG⟩
    have EG := Lib.hid (EF.out.trans (bG.mono EF.out.size))
    have hsq := seqs_any (OwnL.readT (OF.out.below bG)) hb2
    have RG := Lib.hid rG
    clear bG rG hcol
    go_wp2_with fail
    refine hsq.mono ?_
    rintro e wH ⟨vH, xsH, rfl, oH, bH⟩
    have EH := Lib.hid (EG.out.trans (bH.mono EG.out.size))
    have RH := Lib.hid (RG.out.below bH)
    obtain ⟨aH, cH, rfl⟩ := row_slice oH.row
    obtain ⟨GH, hGH⟩ := oH.seqs
    have hall := K.all hGH HGD.out hm4
    clear bH oH hsq hGH RG
    go_wp2_with fail
    refine hall.mono ?_
    rintro e wI ⟨gI, lbI, GI, rfl, sI, bI, -⟩
    have EI := Lib.hid (EH.out.trans (bI.mono EH.out.size))
    have RI := Lib.hid (RH.out.below bI)
    have hcol := made_collect sI hp3
    clear bI sI RH hall
    go_wp2_with fail
    refine hcol.mono ?_
    rintro e wJ ⟨aJ, cJ, rfl, rJ, bJ⟩
    have EJ := Lib.hid (EI.out.trans (bJ.mono EI.out.size))
    have hsm := same8_true (RI.out.below bJ) rJ
    clear bJ rJ RI hcol
    go_wp2_with fail
    refine hsm.mono ?_
    rintro e wK ⟨rfl, nK, rfl⟩
    have EK := Lib.hid (below_drewN EJ.out nK)
    clear hsm
    go_wp2
    go_ret
    exact ⟨rfl, EK.out⟩
end Go.Proofs.Ytebiipmaimdocaa

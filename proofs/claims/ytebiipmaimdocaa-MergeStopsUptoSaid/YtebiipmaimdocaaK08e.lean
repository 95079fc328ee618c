/- Layer 8: the walk of MergeStops, whatever the merge. -/
import Derived.Test.YtebiipmaimdocaaK08a
import Derived.Test.YtebiipmaimdocaaK08b
import Derived.Test.YtebiipmaimdocaaG5
import Derived.Deep.QuietTactic
import Derived.BigQuiet
import Derived.Deep.Cut
import Derived.Deep.RegionHeld3
namespace Go.Proofs.Ytebiipmaimdocaa
open Go.RowKit Go.Maps Go.WideMaps Go.Shelf
set_option linter.unusedVariables false

attribute [local go_sem] Oper.semAt_some

theorem read8_take {w : World} {a : Option Addr} {n c : Nat} {l : List PairS} (h : ReadP w (.slice a n c) l) {r : Nat} (hr : r ≤ l.length) : ReadP w (.slice a r c) (l.take r) := by
  have hl : (l.take r).length = r := by rw [List.length_take]; omega
  obtain ⟨hm, a', c', hv, h1⟩ := h
  injection hv with e1 e2 e3
  subst e1; subst e3
  refine ⟨by omega, a, c, by rw [hl], ?_⟩
  rcases h1 with h1 | ⟨b, o, e, h1⟩
  · left; subst h1; simp
  · refine .inr ⟨b, o, e, fun i hi => ?_⟩
    have hi' : i < l.length := by omega
    rw [List.getElem_take]
    exact h1 i hi'
theorem block_other8 {w : World} {b i k : Nat} {v : Value} (e : k ≠ b) : (w.setCell ⟨b, i, none⟩ v).heap[k]? = w.heap[k]? := Below.heap_setCell _ _ _ _ (fun e2 => e (by first | exact e2 | exact e2.symm))
theorem below_drew8 {B : Nat} {W w : World} {a b : Nat} (h : Below B W (w.drewN a)) : Below B W (w.drewN (a + b)) := by
  rw [← World.drewN_drewN]
  exact below_drewN h b

set_option maxHeartbeats 8000000 in
set_option maxRecDepth 100000 in
theorem stops8_walk (K : MergeK) (a0 : Option Addr) (c0 : Nat) (ls : List (List PairS)) (most : Int) (w : World) (h0 : ReadL w (.slice a0 ls.length c0) ls) (hN : sumL8 ls + ls.length ≤ 1099511627776) (hm : (Lit.int .i64 most).wf = true) :
    Calls Try.prog 5 #[.slice a0 ls.length c0, .int .i64 most] w fun e w' => e = .returned (.bool true) ∧ Below w.heap.size w w' := by
  have hb := bounds_i64 hm
  obtain ⟨W0, hW0⟩ : ∃ W0, w.alloc (.cells #[.int .i64 most] 3) = W0 := ⟨_, rfl⟩
  have hb0 : Below w.heap.size w W0 := by rw [← hW0]; exact (Below.refl _ w).alloc (Nat.le_refl _) _
  have hs0 : W0.heap.size = w.heap.size + 1 := by rw [← hW0]; simp
  have hmo : W0.heap[w.heap.size]? = some (.cells #[.int .i64 most] 3 (0, 0)) := by rw [← hW0]; exact heap_alloc_new _ _
  have hor := fun w' (b : Below W0.heap.size W0 w') => ordered_any ((h0.below hb0).below b) (by omega) (fun l hl => by have := sum_mem8 hl; omega)
  have hos := ordP_sum ls
  have hol := ordP_len ls
  have hgd := GoodL.ord ls
  have hal := allP_len (ordP ls)
  generalize ordP ls = L at *
  have hb1 : (allP L).length ≤ 3518437208780 := by omega
  have hb2 : sumL8 L ≤ 3518437208780 := by omega
  have hb3 : L.length ≤ 3518437208780 := by omega
  have hLN : sumL8 L + L.length ≤ 1099511627776 := by omega
  have HOR := Lib.hid hor
  have HGD := Lib.hid hgd
  have HB0 := Lib.hid hb0
  have HMO := Lib.hid hmo
  have HS0 := Lib.hid hs0
  clear hor h0 hgd hos hol hal hN hb0 hmo hs0 hm
  refine (callsIn_wide (n := 6)).1 ?_
  refine callsIn_of_wp_marks Try.func5 rfl trivial ?_ rfl
  simp only [Try.ntmps5, List.size_toArray, List.length_cons, List.length_nil, Nat.reduceAdd, Nat.reduceSub, Array.replicate_succ, Array.replicate_zero, List.push_toArray, List.append_toArray, List.nil_append, List.cons_append]
  refine wpIn_wide.2 ?_
  go_wp2_with fail
  refine (awake8_any K _).mono ?_
  rintro e w1 ⟨rfl, b1⟩
  have B1 := Lib.hid b1
  clear b1
  go_wp2_with fail
  refine (HOR.out w1 B1.out).mono ?_
  rintro e w2 ⟨v, xs, rfl, o2, b2⟩
  have B2 := Lib.hid (B1.out.trans (b2.mono B1.out.size))
  obtain ⟨va, vc, rfl⟩ := row_slice o2.row
  have O2 := Lib.hid o2
  have hsq := seqs_any (OwnL.readT o2) hb3
  clear b2 o2 HOR
  go_wp2_with fail
  refine hsq.mono ?_
  rintro e w3 ⟨v3, xs3, rfl, o3, b3⟩
  have B3 := Lib.hid (B2.out.trans (b3.mono B2.out.size))
  have O3 := Lib.hid (O2.out.below b3)
  obtain ⟨sa, sc, rfl⟩ := row_slice o3.row
  obtain ⟨G, hG⟩ := o3.seqs
  have hall := K.all hG HGD.out hLN
  clear b3 o3 hsq O2 hG
  go_wp2_with fail
  refine hall.mono ?_
  rintro e w4 ⟨g, lb, G', rfl, hs4, b4, -⟩
  have B4 := Lib.hid (B3.out.trans (b4.mono B3.out.size))
  have O4 := Lib.hid (O3.out.below b4)
  have S4 := Lib.hid hs4
  have hra := rall_any O4.out.read hb2
  clear b4 hall O3 hs4
  go_wp2_with fail
  refine hra.mono ?_
  rintro e w5 ⟨v5, rfl, o5, b5⟩
  have B5 := Lib.hid (B4.out.trans (b5.mono B4.out.size))
  have S5 := Lib.hid (S4.out.below b5)
  obtain ⟨aw, cw, rfl⟩ := row_slice o5
  obtain ⟨hcw1, hcw2⟩ := own8_cap o5
  have R5 := Lib.hid (ReadP.own o5)
  clear b5 hra S4 O4 o5
  generalize allP L = l' at *
  obtain ⟨lo, hlo⟩ : ∃ lo, w5.heap.size = lo := ⟨_, rfl⟩
  have bL := (Below.refl w5.heap.size w5).alloc (Nat.le_refl _) (.cells #[.slice none 0 0] 26)
  have hbox : Boxed (w5.alloc (.cells #[.slice none 0 0] 26)) lo 26 (.slice none 0 0) := by rw [← hlo]; exact Boxed.new _ _ _
  have h6s : (w5.alloc (.cells #[.slice none 0 0] 26)).heap.size = lo + 1 := by rw [World.size_alloc, hlo]
  have S6 := Lib.hid (S5.out.below bL)
  have B6 := Lib.hid bL
  have HBX := Lib.hid hbox
  have H6S := Lib.hid h6s
  have hw0 : W0.heap.size ≤ lo := by have := B5.out.size; omega
  have HMA := Lib.hid ((bL.block _ (by have := HS0.out; omega)).trans ((B5.out.block _ (by have := HS0.out; omega)).trans HMO.out))
  have HGL : Hid (∀ j, G' j → j < lo) := fun j hj => by have := S5.out.func.2.2 j hj; omega
  clear bL hbox h6s
  go_wp2_with fail
  generalize w5.alloc (.cells #[.slice none 0 0] 26) = wA at *
  have HLO := Lib.hid hlo
  obtain ⟨eg, hgi, hG⟩ := S6.out.func
  have hA1 : lo + 1 ≤ wA.heap.size := by have := H6S.out; omega
  obtain ⟨i0, hi, hz0, hz1, hz2⟩ := info_parts infoPair
  have hws0 := HS0.out
  have hfl : l'.length ≤ 3518437208880 := by omega
  have HHS := Lib.hid hws0
  clear hlo hws0
  refine range_boxC 5 20 9 rfl eg hgi hG rfl
    (fun pre C W => (HeldC lo lo 26 29 3 pre.length (rowP pre) C W ∧ (pre.length : Int) ≤ max 0 most) ∧ LowC lo wA C W)
    (fun c pre C W => (c = .exit 0 ∧ pre ≠ [] ∧ most ≤ (pre.dropLast.length : Int)) ∧ (HeldC lo lo 26 29 3 pre.dropLast.length (rowP pre.dropLast) C W ∧ (pre.dropLast.length : Int) ≤ max 0 most) ∧ LowC lo wA C W)
    (AbidesC.and (AbidesC.and (heldC_abides lo lo 26 29 3 (fun (pre : List PairS) => pre.length) (fun (pre : List PairS) => rowP pre)) (abidesC_pure (fun (pre : List PairS) => (pre.length : Int) ≤ max 0 most))) (lowC_abides _ _))
    (fun c => AbidesC.and (abidesC_pure _) (AbidesC.and (AbidesC.and (heldC_abides lo lo 26 29 3 (fun (pre : List PairS) => pre.dropLast.length) (fun (pre : List PairS) => rowP pre.dropLast)) (abidesC_pure (fun (pre : List PairS) => (pre.dropLast.length : Int) ≤ max 0 most))) (lowC_abides _ _)))
    (fun k => k < wA.heap.size) (fun k hk => hk)
    ⟨⟨⟨_, HBX.out, World.ownsRow_nil _ _ _ _, by omega, fun j hj => by simp [Value.ownBlock] at hj⟩, by simp; omega⟩, Below.refl _ _, fun k hk => by omega⟩
    ?assign ?body ?rest
  case assign =>
    intro l x W K' hK
    unfold PairS.val' at *
    gi_wp2
    exact hK _ _ (Nat.le_refl _) (PairBox.new W x) ((Below.refl _ W).alloc (Nat.le_refl _) _)
  case body =>
    rintro l pre x Bx C W ⟨⟨⟨v, hv, hrow, hCB, hCr⟩, hc⟩, hB⟩ hC hWs hp hCx hBx hbx
    have hlt : pre.length < l'.length := by have := hp.length_le; simp at this; omega
    have x0 := hbx.c0
    have x1 := hbx.c1
    have x2 := hbx.c2
    have c0 := hv.cell
    have f0 := hv.frozen
    have hs := hB.1.size
    have hmoW : W.cell? ⟨w.heap.size, 0, none⟩ = some (.int .i64 most) := by rw [block_cell ((hB.1.block _ (by have := HHS.out; omega)).trans HMA.out)]; rfl
    have hne : (26 : TypeId) ≠ 29 := by decide
    obtain ⟨av, cv, rfl⟩ := (ReadP.own hrow).slice
    unfold PairS.val'
    by_cases hge : most ≤ (pre.length : Int)
    · have HHE : Hid (HeldC lo lo 26 29 3 pre.length (rowP pre) (CNew C W W) W) := HeldC.stays ⟨_, hv, hrow, hCB, hCr⟩ (Stays.refl C W) (fun k hk => .inl hk)
      gi_wp2
      exact ⟨Turn.refl _ _, ⟨rfl, by simp, by simpa using hge⟩, ⟨by rw [List.dropLast_concat]; exact HHE.out, by simpa using hc⟩, hB.turn (Below.refl _ _)⟩
    · gi_wp2_with (gi_at_builtin; go_loud (refine wpListIn_append_own_at _ rfl _ _ 26 rfl lo 29 i0 _ 3 40 Try.underlying26 hi hz0 hz1 hz2 rfl (by decide) _ _ _ rfl (hrow.alloc _) ⟨W.heap.size, 0, none⟩ 1 1 [.string x.key, .string x.val, .bool x.gone] rfl rfl (cells_new _ _) (three_one x) (by unfold maxLen; omega) (by omega) (by simp; omega) ?_; intro v' w1 hown' hgrow _ hwh; obtain ⟨g', cap', rfl⟩ := ownsRow_succ hown'; obtain ⟨hh, ht, hb2, hv1⟩ := heldC_appended hv hrow hCB hCr hne (by omega) (Nat.le_refl _) hown' hgrow hwh; have hc1 := hv1.cell; have hf1 := hv1.frozen))
      exact ⟨ht, Keeps.of_below hb2 HGL.out, ⟨by rw [rowP_snoc, List.length_append]; exact hh, by rw [List.length_append]; simp; omega⟩, hB.turn hb2⟩
  case rest =>
    refine EndsC.block (fun C W => ∃ q v, Boxed W lo 26 v ∧ W.ownsRow lo 29 3 v q.length (rowP q) ∧ q = l'.take (max 0 (min most (l'.length : Int))).toNat ∧ Below lo wA W) ?_ ?_ ?_
    · rintro C W - ⟨⟨⟨v, hv, hrow, _, _⟩, hc⟩, hB⟩
      exact ⟨_, v, hv, hrow, (List.take_of_length_le (by omega)).symm, hB.1⟩
    · rintro c pre C W - hp ⟨⟨rfl, hne, hge⟩, ⟨⟨v, hv, hrow, _, _⟩, hc⟩, hB⟩
      have h1 : pre.dropLast <+: l' := (List.dropLast_prefix pre).trans hp
      have h2 := h1.length_le
      refine ⟨rfl, pre.dropLast, v, hv, hrow, ?_, hB.1⟩
      rw [show (max 0 (min most (l'.length : Int))).toNat = pre.dropLast.length by omega]
      exact List.prefix_iff_eq_take.1 h1
    · rintro D C W hD hnD hCW ⟨q, v, hv, hrow, hq, hB⟩ hD2
      clear hnD hCW
      have hs := hB.size
      have hB5 : Below w5.heap.size w5 W := by rw [← HLO.out] at hB; exact B6.out.trans hB
      have SW := Lib.hid (S5.out.below hB5)
      have HR0 := Lib.hid (R5.out.below hB5)
      have BW := Lib.hid (B5.out.trans (hB5.mono B5.out.size))
      have HBE := Lib.hid (HB0.out.trans (BW.out.mono HB0.out.size))
      obtain ⟨ag, cg, rfl⟩ := row_slice hrow
      have HR1 := Lib.hid (ReadP.own hrow)
      have l0 := hv.cell
      have l1 : W.cell? ⟨w.heap.size, 0, none⟩ = some (.int .i64 most) := by rw [block_cell ((hB.block _ (by have := HHS.out; omega)).trans HMA.out)]; rfl
      have SB : Hid (∀ w', Below W.heap.size W w' → w'.cell? ⟨lo, 0, none⟩ = some (.slice ag q.length cg) ∧ w'.cell? ⟨w.heap.size, 0, none⟩ = some (.int .i64 most)) := fun w' t => by
        have lt : ∀ {b i : Nat} {u : Value}, W.cell? ⟨b, i, none⟩ = some u → w'.cell? ⟨b, i, none⟩ = some u := fun {b i u} h => (t.cell (World.block_lt_of_cell? W ⟨b, i, none⟩ h)).trans h
        exact ⟨lt l0, lt l1⟩
      have HD4 := Lib.hid hD2
      have hRn : (max 0 (min most (l'.length : Int))).toNat ≤ l'.length := by omega
      have hq' : q = l'.take (max 0 (min most (l'.length : Int))).toNat := hq
      have HT : Hid (ReadP W (.slice aw (max 0 (min most (l'.length : Int))).toNat cw) q) := by
        have h1 := read8_take HR0.out hRn
        rwa [← hq'] at h1
      clear hq hq' hRn hv hrow hB hB5 hD2 S5 S6 R5 B6 HBX H6S HMA HGL hgi eg hG
      go_upto_region 11 with (fail)
      by_cases hA : (l'.length : Int) < most
      · by_cases h2 : 0 < l'.length
        · have HR3 : Hid (ReadP W (.slice aw l'.length cw) q) := by
            have h1 := HT.out
            rwa [show (max 0 (min most (l'.length : Int))).toNat = l'.length by omega] at h1
          have hq1 : (l'.length : Int) ≤ (cw : Int) := by omega
          clear HT
          go_region_held3 (fun w' => w'.cell? ⟨lo, 0, none⟩ = some (.slice ag q.length cg) ∧ w'.cell? ⟨w.heap.size, 0, none⟩ = some (.int .i64 most)) (exact SB.out _ (by repeat (first | exact BG.out | exact BC.out | exact BS.out | exact Below.refl _ _ | apply Below.drew)))
            (first
            | (go_at_call 11; go_loud (refine (made_collect (SW.out.below (by repeat (first | exact BS.out | exact below_drewN BS.out _ | apply Below.drew))) hb1).mono ?_); rintro e wC ⟨aC, cC, rfl, rC, bC⟩; have BC : Hid (Below W.heap.size W wC) := below_next (by repeat (first | exact BS.out | apply Below.drew)) (Nat.le_refl _) bC; have RC := Lib.hid rC; clear rC bC)
            | (go_at_call 10; have hx := RC; clear hx; refine (same8_true (RC.out.below (by repeat (first | exact Below.refl _ _ | apply Below.drew))) (HR0.out.below (by repeat (first | exact BC.out | apply Below.drew)))).mono ?_; rintro e wG ⟨rfl, hw⟩; have BG : Hid (Below W.heap.size W wG) := (by obtain ⟨n, hn⟩ := hw; subst hn; exact below_drewN (by repeat (first | exact BC.out | exact below_drewN BC.out _ | apply Below.drew)) n); clear hw)
            | (go_at_call 10; refine (same8_true (HR1.out.below (by repeat (first | exact Below.refl _ _ | exact drawnB _ _ | apply Below.drew))) (HR3.out.below (by repeat (first | exact Below.refl _ _ | exact drawnB _ _ | apply Below.drew)))).mono ?_; rintro e wS ⟨rfl, hw⟩; have BS : Hid (Below W.heap.size W wS) := (by obtain ⟨n, hn⟩ := hw; subst hn; exact below_drewN (by repeat (first | exact Below.refl _ _ | exact drawnB _ _ | apply Below.drew)) n); clear hw)
            )
          all_goals
            have hZ1 := (BG.out.block _ (block_lt HD4.out)).trans HD4.out
            have HZB := Lib.hid (HBE.out.trans (BG.out.mono HBE.out.size))
            have HLB := HB0.out.size
            go_wp2
            refine ⟨by simp, .inl ⟨_, _, rfl, run_takeDeferred hZ1, ?_⟩⟩
            exact ⟨_, results_tmp rfl _ _ _, rfl, HZB.out.trans (belowK_b (w := w) (Nat.le_refl _) _ D _ _ (by omega) hZ1 rfl rfl)⟩
        · have HR3 : Hid (ReadP W (.slice aw 0 cw) q) := by
            have h1 := HT.out
            rwa [show (max 0 (min most (l'.length : Int))).toNat = 0 by omega] at h1
          have hq1 : (0 : Int) ≤ (cw : Int) := by omega
          clear HT
          go_region_held3 (fun w' => w'.cell? ⟨lo, 0, none⟩ = some (.slice ag q.length cg) ∧ w'.cell? ⟨w.heap.size, 0, none⟩ = some (.int .i64 most)) (exact SB.out _ (by repeat (first | exact BG.out | exact BC.out | exact BS.out | exact Below.refl _ _ | apply Below.drew)))
            (first
            | (go_at_call 11; go_loud (refine (made_collect (SW.out.below (by repeat (first | exact BS.out | exact below_drewN BS.out _ | apply Below.drew))) hb1).mono ?_); rintro e wC ⟨aC, cC, rfl, rC, bC⟩; have BC : Hid (Below W.heap.size W wC) := below_next (by repeat (first | exact BS.out | apply Below.drew)) (Nat.le_refl _) bC; have RC := Lib.hid rC; clear rC bC)
            | (go_at_call 10; have hx := RC; clear hx; refine (same8_true (RC.out.below (by repeat (first | exact Below.refl _ _ | apply Below.drew))) (HR0.out.below (by repeat (first | exact BC.out | apply Below.drew)))).mono ?_; rintro e wG ⟨rfl, hw⟩; have BG : Hid (Below W.heap.size W wG) := (by obtain ⟨n, hn⟩ := hw; subst hn; exact below_drewN (by repeat (first | exact BC.out | exact below_drewN BC.out _ | apply Below.drew)) n); clear hw)
            | (go_at_call 10; refine (same8_true (HR1.out.below (by repeat (first | exact Below.refl _ _ | exact drawnB _ _ | apply Below.drew))) (HR3.out.below (by repeat (first | exact Below.refl _ _ | exact drawnB _ _ | apply Below.drew)))).mono ?_; rintro e wS ⟨rfl, hw⟩; have BS : Hid (Below W.heap.size W wS) := (by obtain ⟨n, hn⟩ := hw; subst hn; exact below_drewN (by repeat (first | exact Below.refl _ _ | exact drawnB _ _ | apply Below.drew)) n); clear hw)
            )
          all_goals
            have hZ1 := (BG.out.block _ (block_lt HD4.out)).trans HD4.out
            have HZB := Lib.hid (HBE.out.trans (BG.out.mono HBE.out.size))
            have HLB := HB0.out.size
            go_wp2
            refine ⟨by simp, .inl ⟨_, _, rfl, run_takeDeferred hZ1, ?_⟩⟩
            exact ⟨_, results_tmp rfl _ _ _, rfl, HZB.out.trans (belowK_b (w := w) (Nat.le_refl _) _ D _ _ (by omega) hZ1 rfl rfl)⟩
      · by_cases h2 : (0 : Int) < most
        · have HR3 : Hid (ReadP W (.slice aw most.toNat cw) q) := by
            have h1 := HT.out
            rwa [show (max 0 (min most (l'.length : Int))).toNat = most.toNat by omega] at h1
          have hA3 : ((l'.length : Int) < most) = False := eq_false hA
          have hq0 : (0 : Int) ≤ most := by omega
          have hq1 : most ≤ (cw : Int) := by omega
          clear HT
          go_region_held3 (fun w' => w'.cell? ⟨lo, 0, none⟩ = some (.slice ag q.length cg) ∧ w'.cell? ⟨w.heap.size, 0, none⟩ = some (.int .i64 most)) (exact SB.out _ (by repeat (first | exact BG.out | exact BC.out | exact BS.out | exact Below.refl _ _ | apply Below.drew)))
            (first
            | (go_at_call 11; go_loud (refine (made_collect (SW.out.below (by repeat (first | exact BS.out | exact below_drewN BS.out _ | apply Below.drew))) hb1).mono ?_); rintro e wC ⟨aC, cC, rfl, rC, bC⟩; have BC : Hid (Below W.heap.size W wC) := below_next (by repeat (first | exact BS.out | apply Below.drew)) (Nat.le_refl _) bC; have RC := Lib.hid rC; clear rC bC)
            | (go_at_call 10; have hx := RC; clear hx; refine (same8_true (RC.out.below (by repeat (first | exact Below.refl _ _ | apply Below.drew))) (HR0.out.below (by repeat (first | exact BC.out | apply Below.drew)))).mono ?_; rintro e wG ⟨rfl, hw⟩; have BG : Hid (Below W.heap.size W wG) := (by obtain ⟨n, hn⟩ := hw; subst hn; exact below_drewN (by repeat (first | exact BC.out | exact below_drewN BC.out _ | apply Below.drew)) n); clear hw)
            | (go_at_call 10; refine (same8_true (HR1.out.below (by repeat (first | exact Below.refl _ _ | exact drawnB _ _ | apply Below.drew))) (HR3.out.below (by repeat (first | exact Below.refl _ _ | exact drawnB _ _ | apply Below.drew)))).mono ?_; rintro e wS ⟨rfl, hw⟩; have BS : Hid (Below W.heap.size W wS) := (by obtain ⟨n, hn⟩ := hw; subst hn; exact below_drewN (by repeat (first | exact Below.refl _ _ | exact drawnB _ _ | apply Below.drew)) n); clear hw)
            )
          all_goals
            have hZ1 := (BG.out.block _ (block_lt HD4.out)).trans HD4.out
            have HZB := Lib.hid (HBE.out.trans (BG.out.mono HBE.out.size))
            have HLB := HB0.out.size
            go_wp2
            refine ⟨by simp, .inl ⟨_, _, rfl, run_takeDeferred hZ1, ?_⟩⟩
            exact ⟨_, results_tmp rfl _ _ _, rfl, HZB.out.trans (belowK_b (w := w) (Nat.le_refl _) _ D _ _ (by omega) hZ1 rfl rfl)⟩
        · have HR3 : Hid (ReadP W (.slice aw 0 cw) q) := by
            have h1 := HT.out
            rwa [show (max 0 (min most (l'.length : Int))).toNat = 0 by omega] at h1
          have hA3 : ((l'.length : Int) < most) = False := eq_false hA
          have h23 : ((0 : Int) < most) = False := eq_false h2
          have hq1 : (0 : Int) ≤ (cw : Int) := by omega
          clear HT
          go_region_held3 (fun w' => w'.cell? ⟨lo, 0, none⟩ = some (.slice ag q.length cg) ∧ w'.cell? ⟨w.heap.size, 0, none⟩ = some (.int .i64 most)) (exact SB.out _ (by repeat (first | exact BG.out | exact BC.out | exact BS.out | exact Below.refl _ _ | apply Below.drew)))
            (first
            | (go_at_call 11; go_loud (refine (made_collect (SW.out.below (by repeat (first | exact BS.out | exact below_drewN BS.out _ | apply Below.drew))) hb1).mono ?_); rintro e wC ⟨aC, cC, rfl, rC, bC⟩; have BC : Hid (Below W.heap.size W wC) := below_next (by repeat (first | exact BS.out | apply Below.drew)) (Nat.le_refl _) bC; have RC := Lib.hid rC; clear rC bC)
            | (go_at_call 10; have hx := RC; clear hx; refine (same8_true (RC.out.below (by repeat (first | exact Below.refl _ _ | apply Below.drew))) (HR0.out.below (by repeat (first | exact BC.out | apply Below.drew)))).mono ?_; rintro e wG ⟨rfl, hw⟩; have BG : Hid (Below W.heap.size W wG) := (by obtain ⟨n, hn⟩ := hw; subst hn; exact below_drewN (by repeat (first | exact BC.out | exact below_drewN BC.out _ | apply Below.drew)) n); clear hw)
            | (go_at_call 10; refine (same8_true (HR1.out.below (by repeat (first | exact Below.refl _ _ | exact drawnB _ _ | apply Below.drew))) (HR3.out.below (by repeat (first | exact Below.refl _ _ | exact drawnB _ _ | apply Below.drew)))).mono ?_; rintro e wS ⟨rfl, hw⟩; have BS : Hid (Below W.heap.size W wS) := (by obtain ⟨n, hn⟩ := hw; subst hn; exact below_drewN (by repeat (first | exact Below.refl _ _ | exact drawnB _ _ | apply Below.drew)) n); clear hw)
            )
          all_goals
            have hZ1 := (BG.out.block _ (block_lt HD4.out)).trans HD4.out
            have HZB := Lib.hid (HBE.out.trans (BG.out.mono HBE.out.size))
            have HLB := HB0.out.size
            go_wp2
            refine ⟨by simp, .inl ⟨_, _, rfl, run_takeDeferred hZ1, ?_⟩⟩
            exact ⟨_, results_tmp rfl _ _ _, rfl, HZB.out.trans (belowK_b (w := w) (Nat.le_refl _) _ D _ _ (by omega) hZ1 rfl rfl)⟩
end Go.Proofs.Ytebiipmaimdocaa

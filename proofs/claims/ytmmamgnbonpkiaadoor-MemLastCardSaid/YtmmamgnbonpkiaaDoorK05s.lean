/- Layer 5: the walk of MemStops, whatever the table. -/
import Derived.Test.YtmmamgnbonpkiaaDoorK05w
import Derived.Test.YtmmamgnbonpkiaaDoorM05s
import Derived.Test.YtmmamgnbonpkiaaDoorI02
import Derived.Deep.QuietTactic
import Derived.BigQuiet
namespace Go.Proofs.YtmmamgnbonpkiaaDoor
open Go.RowKit Go.Maps Go.WideMaps Go.Shelf
set_option linter.unusedVariables false

attribute [local go_sem] Oper.semAt_some

theorem own_cap {w : World} {base : Nat} {e : TypeId} {sz n c : Nat} {a : Option Addr} {xs : List Value} (h : w.ownsRow base e sz (.slice a n c) n xs) : n ≤ c ∧ c ≤ maxLen := by
  rcases h.2 with ⟨hv, h0⟩ | ⟨g, cap, cur, hv, _, _, h1, h2, _⟩
  · injection hv with _ _ e; subst e; subst h0; exact ⟨Nat.le_refl _, by decide⟩
  · injection hv with _ _ e; subst e; exact ⟨h1, h2⟩
theorem ReadP.take {w : World} {a : Option Addr} {n c : Nat} {l : List PairS} (h : ReadP w (.slice a n c) l) {r : Nat} (hr : r ≤ l.length) : ReadP w (.slice a r c) (l.take r) := by
  have hl : (l.take r).length = r := by rw [List.length_take]; omega
  obtain ⟨hm, a', c', hv, h1⟩ := h
  injection hv with e1 e2 e3
  subst e1; subst e3
  refine ⟨by omega, a, c, by rw [hl], ?_⟩
  rcases h1 with h1 | ⟨b, o, e, h1⟩
  · left; subst h1; simp
  · refine .inr ⟨b, o, e, fun i hi => ?_⟩
    have hi' : i < l.length := by omega
    rw [List.getElem_take]
    exact h1 i hi'
theorem rsame_true {w : World} {x y : Value} {a : List PairS} (ha : ReadP w x a) (hb : ReadP w y a) : Calls Tryd.prog 15 #[x, y] w fun e w' => e = .returned (.bool true) ∧ ∃ n, w' = w.drewN n := by
  have := rsame_any ha hb
  rwa [sameP_refl] at this
theorem geq_any {a b : ByteArray} (h : befB a b = false) (w : World) : (binOp BinOp.geq 9 (.string a) (.string b)).run Tryd.prog w = .ok (.bool true) w := by
  unfold befB at h
  simp [binOp, Op.stringOp, h]
/-- A table of the call's own. -/
structure OneS (T : World → Nat → List PairS → (Nat → Prop) → Prop) (w wr : World) (p : Nat) (l : List PairS) (F : Nat → Prop) : Prop where
  tab : T wr p l F
  f : ∀ j, F j → w.heap.size ≤ j ∧ j < wr.heap.size
  below : Below w.heap.size w wr
section
variable {T : World → Nat → List PairS → (Nat → Prop) → Prop} {w wr w' : World} {p : Nat} {l l' : List PairS} {F : Nat → Prop}
theorem OneS.later (K : MemK T) (h : OneS T w wr p l F) (hb : Below wr.heap.size wr w') : OneS T w w' p l F :=
  ⟨K.kept h.tab (Turn.of_below (fun _ => False) hb) (fun _ _ h => h), fun j hj => ⟨(h.f j hj).1, by have := (h.f j hj).2; have := hb.size; omega⟩, h.below.trans (hb.mono h.below.size)⟩
theorem OneS.onTab (K : MemK T) (h : OneS T w wr p l F) (hb : T w' p l' (Grown F wr w')) (t : Turn F wr w') : OneS T w w' p l' (Grown F wr w') := by
  have hs := t.size
  have h0 := h.below.size
  refine ⟨hb, fun j hj => ?_, h.below.trans (t.below (fun j hj => (h.f j hj).1) h0)⟩
  rcases hj with hj | hj
  · exact ⟨(h.f j hj).1, by have := (h.f j hj).2; omega⟩
  · exact ⟨by omega, hj.2⟩
end

set_option maxHeartbeats 8000000 in
set_option maxRecDepth 100000 in
theorem stops5_walk {T : World → Nat → List PairS → (Nat → Prop) → Prop} (K : MemK T) (a0 : Option Addr) (c0 : Nat) (ps : List PairS) (key : ByteArray) (most : Int) (w : World)
    (h0 : ReadP w (.slice a0 ps.length c0) ps) (hN : ps.length ≤ 3518437208780) (hk : key.size ≤ 281474976710656) (hm : (Lit.int .i64 most).wf = true) (hQ : Tab64 w) :
    Calls Tryd.prog 6 #[.slice a0 ps.length c0, .string key, .int .i64 most] w fun e w' => e = .returned (.bool true) ∧ Below w.heap.size w w' := by
  have hb := bounds_i64 hm
  obtain ⟨W0, hW0⟩ : ∃ W0, w.alloc (.cells #[.int .i64 most] 3) = W0 := ⟨_, rfl⟩
  have hb0 : Below w.heap.size w W0 := by rw [← hW0]; exact (Below.refl _ w).alloc (Nat.le_refl _) _
  have hmo : W0.heap[w.heap.size]? = some (.cells #[.int .i64 most] 3 (0, 0)) := by rw [← hW0]; exact heap_alloc_new _ _
  have hQ0 := hQ.below hb0
  have HB0 := Lib.hid hb0
  have HMO := Lib.hid hmo
  have H0 := Lib.hid (h0.below hb0)
  clear h0 hb0 hmo hQ
  refine (callsIn_wide (n := 6)).1 ?_
  refine callsIn_of_wp_marks Tryd.func6 rfl trivial ?_ rfl
  simp only [Tryd.ntmps6, List.size_toArray, List.length_cons, List.length_nil, Nat.reduceAdd, Nat.reduceSub, Array.replicate_succ, Array.replicate_zero, List.push_toArray, List.append_toArray, List.nil_append, List.cons_append]
  refine wpIn_wide.2 ?_
  go_wp2_with fail
  refine (awake5_any K _ hQ0).mono ?_
  rintro e w1 ⟨rfl, b1⟩
  go_wp2_with fail
  refine (K.new _).mono ?_
  rintro e w2 ⟨p, rfl, h2, b2⟩
  have hst : ∃ F, OneS T W0 w2 p [] F := ⟨_, h2, fun j hj => ⟨by have := hj.1; have := b1.size; omega, hj.2⟩, b1.trans (b2.mono b1.size)⟩
  have HST := Lib.hid hst
  have HQ := Lib.hid hQ0
  clear h2 b1 b2 hst hQ0
  go_wp2
  go_loopw [18] (fun iv wr => ∃ k : Nat, k ≤ ps.length ∧ iv = .int .i64 (k : Int) ∧ Hid (∃ F, OneS T W0 wr p (putsP (ps.take k)) F)) (fun iv _ => ps.length - (intOf iv).toNat)
  case atStart => exact ⟨0, by omega, rfl, HST.out⟩
  case round =>
    clear HST
    obtain ⟨k, hk1, rfl, HR⟩ := hrel
    by_cases hlt : k < ps.length
    · obtain ⟨F, h2⟩ := HR.out
      obtain ⟨b, off, rfl, q0, q1, q2⟩ := H0.out.in h2.below hlt
      have hz1 := putsP_len ps k
      have hz2 := (putsP_fine (ps.take k)).size
      have HN := Lib.hid (putsP_next hlt)
      generalize ps[k] = X at *
      obtain ⟨xk, xv, xg⟩ := X
      simp only at q0 q1 q2
      generalize hL : putsP (ps.take k) = L at *
      clear hL
      have hz3 : sizeP L ≤ 36028797018963968 := by omega
      have hbl := (Below.refl wr.heap.size wr).alloc (Nat.le_refl _) (.cells #[.string xk, .string xv, .bool xg] 31)
      have TW := Lib.hid (h2.later K hbl)
      clear hbl h2 HR
      go_wp2_with fail
      refine (K.put ⟨xk, xv, xg⟩ (HQ.out.below TW.out.below) TW.out.tab (by omega) hz3).mono ?_
      rintro e wA ⟨rfl, hA, tA⟩
      have TA := Lib.hid (TW.out.onTab K hA tA)
      clear hA tA q0 q1 q2
      go_wp2
      go_roundw
      case rel => exact ⟨k + 1, by omega, by go_num, by rw [HN.out]; exact ⟨_, TA.out⟩⟩
      case measure => simp [intOf]; omega
    · obtain ⟨F, h2⟩ := HR.out
      have hz1 := putsP_len ps k
      have hrs := putsP_rising ps k
      generalize putsP (ps.take k) = L at *
      have H2 := Lib.hid h2
      have hLl : L.length ≤ 3518437208880 := by omega
      have HRS := Lib.hid hrs
      obtain ⟨lo, hlo⟩ : ∃ lo, wr.heap.size = lo := ⟨_, rfl⟩
      have HLO := Lib.hid hlo
      have bL := (Below.refl wr.heap.size wr).alloc (Nat.le_refl _) (.cells #[.slice none 0 0] 22)
      have HBL := Lib.hid bL
      have H3 := Lib.hid (h2.later K bL)
      clear h2 HR hrs bL
      go_wp2_with fail
      refine (K.seq key H3.out.tab hk).mono ?_
      rintro e wA ⟨g, lb, Gs, rfl, eg, hgi, hG, bA, hGF, -⟩
      go_wp2_with fail
      have hFl : ∀ j, F j → j < lo := fun j hj => by have := (H2.out.f j hj).2; omega
      have hsz1 : (wr.alloc (.cells #[.slice none 0 0] 22)).heap.size = lo + 1 := by rw [World.size_alloc, hlo]
      have hbox : Boxed (wr.alloc (.cells #[.slice none 0 0] 22)) lo 22 (.slice none 0 0) := by rw [← hlo]; exact Boxed.new _ _ _
      have hboxA : Boxed wA lo 22 (.slice none 0 0) := (bA.block lo (by omega)).trans hbox
      have hszA : lo + 1 ≤ wA.heap.size := by have := bA.size; omega
      have hlow : W0.heap.size ≤ lo := by have := H2.out.below.size; omega
      have hW0s : W0.heap.size = w.heap.size + 1 := by rw [← hW0]; simp
      have hmoA : wA.heap[w.heap.size]? = some (.cells #[.int .i64 most] 3 (0, 0)) := (bA.block _ (by omega)).trans ((H3.out.below.block _ (by omega)).trans HMO.out)
      have hGl : ∀ j, Gs j → j ≠ lo := fun j hj e => by
        rcases hGF j hj with h | h
        · have := hFl j h; omega
        · omega
      have H4 := Lib.hid (H3.out.later K bA)
      have HBX := Lib.hid hboxA
      have HMA := Lib.hid hmoA
      have HGL := Lib.hid hGl
      have HFL := Lib.hid hFl
      have hseq := hgi wA (Below.refl _ _)
      have hfl : (fromP key L).length ≤ 3518437208880 := by unfold fromP; rw [List.length_drop]; omega
      obtain ⟨i0, hi, hz0, hz1, hz2⟩ := info_parts infoPair
      clear hgi bA hbox hboxA hmoA hGl hFl hGF H3 H2 HBL HMO hlo
      refine range_boxP (n := 5) 29 11 (by omega) rfl eg hseq (Below.refl _ _) hG rfl
        (fun pre W => (∃ v, Boxed W lo 22 v ∧ W.ownsRow wA.heap.size 31 3 v pre.length (rowP pre) ∧ (pre.length : Int) ≤ max 0 most) ∧ Below lo wA W)
        (fun c pre W => (c = .exit 2 ∧ pre ≠ [] ∧ most ≤ (pre.dropLast.length : Int)) ∧ (∃ v, Boxed W lo 22 v ∧ W.ownsRow wA.heap.size 31 3 v pre.dropLast.length (rowP pre.dropLast) ∧ (pre.dropLast.length : Int) ≤ max 0 most) ∧ Below lo wA W)
        (OwnFrom.and (Own.from (holdsRow_own wA.heap.size lo 22 31 3 (fun (pre : List PairS) => pre.length) (fun (pre : List PairS) => rowP pre) (fun (pre : List PairS) _ => (pre.length : Int) ≤ max 0 most)) _) (ownFrom_below (by omega) (by omega)))
        (fun c => OwnFrom.and (ownFrom_pure _ _) (OwnFrom.and (Own.from (holdsRow_own wA.heap.size lo 22 31 3 (fun (pre : List PairS) => pre.dropLast.length) (fun (pre : List PairS) => rowP pre.dropLast) (fun (pre : List PairS) _ => (pre.dropLast.length : Int) ≤ max 0 most)) _) (ownFrom_below (by omega) (by omega))))
        ⟨⟨_, HBX.out, World.ownsRow_nil _ _ _ _, by simp; omega⟩, Below.refl _ _⟩
        ?assign ?body ?rest
      case assign =>
        rintro l pre x W K' ⟨⟨v, hv, hrow, hc⟩, hB⟩ hK
        have hs := hB.size
        unfold PairS.val' at *
        gi_wp2
        exact hK _ _ (by omega) (PairBox.new W x) ((KeepsOthers.alloc _ _).from _) (Keeps.of_below ((Below.refl _ W).alloc (Nat.le_refl _) _) (fun k hk => by have := hG k hk; omega)) ⟨⟨v, hv.alloc _, hrow.alloc _, hc⟩, hB.alloc (by omega) _⟩
      case body =>
        rintro l pre x Bx W hl ⟨r, hr⟩ ⟨⟨v, hv, hrow, hc⟩, hB⟩ hBx hbx hlt
        have x0 := hbx.c0
        have x1 := hbx.c1
        have x2 := hbx.c2
        have c0 := hv.cell
        have f0 := hv.frozen
        have hs := hB.size
        have hmoW : W.cell? ⟨w.heap.size, 0, none⟩ = some (.int .i64 most) := by rw [block_cell ((hB.block _ (by omega)).trans HMA.out)]; rfl
        have hne : (22 : TypeId) ≠ 31 := by decide
        obtain ⟨av, cv, rfl⟩ := (ReadP.own hrow).slice
        unfold PairS.val'
        by_cases hge : most ≤ (pre.length : Int)
        · gi_wp2
          exact ⟨KeepsFrom.refl _ _, ⟨rfl, by simp, by simpa using hge⟩, ⟨_, hv, by simpa using hrow, by simpa using hc⟩, hB⟩
        · gi_wp2_with (gi_at_builtin; go_loud (refine wpListIn_append_own _ rfl _ _ 22 rfl wA.heap.size 31 i0 _ 3 40 Tryd.underlying22 hi hz0 hz1 hz2 rfl (by decide) _ _ _ rfl (hrow.alloc _) ⟨W.heap.size, 0, none⟩ 1 1 [.string x.key, .string x.val, .bool x.gone] rfl rfl (cells_new _ _) (three_one x) (by unfold maxLen; omega) (by omega) (by simp; omega) ?_; intro v' w1 hown' hgrow _; obtain ⟨g', cap', rfl⟩ := ownsRow_succ hown'; obtain ⟨hv1, hv2, hr2, hk2, hb2⟩ := hv.appended hne (ownsRow_low hrow (show lo ≤ wA.heap.size by omega)) (by omega) (Nat.le_refl _) (ownsRow_low hown' (show lo ≤ wA.heap.size by omega)) hgrow; have hv3 := hv.not_row hne hrow; have hr3 : (w1.setCell ⟨lo, 0, none⟩ (.slice (some ⟨g', 0, none⟩) (pre.length + 1) cap')).ownsRow wA.heap.size 31 3 (.slice (some ⟨g', 0, none⟩) (pre.length + 1) cap') _ _ := hown'.kept (grownBy_setCell' w1 lo _) (.inr (hv1.not_row hne hown').symm); have hc1 := hv1.cell; have hf1 := hv1.frozen))
          exact ⟨hk2.from _, fun k hk => (heap_set_other (HGL.out k hk)).trans ((hgrow.block k (by have := hG k hk; simp; omega) (fun e => by have := (hrow.lt k e.symm).1; have := hG k hk; omega)).trans (Below.heap_alloc _ _ _ (by have := hG k hk; omega))), ⟨_, hv2, by rw [rowP_snoc, List.length_append]; exact hr3, by rw [List.length_append]; simp; omega⟩, hB.trans hb2⟩
      case rest =>
        refine EndsP.block (fun W => ∃ q v, Boxed W lo 22 v ∧ W.ownsRow wA.heap.size 31 3 v q.length (rowP q) ∧ q = (fromP key L).take (max 0 (min most ((fromP key L).length : Int))).toNat ∧ Below lo wA W) ?_ ?_ ?_
        · rintro W ⟨⟨v, hv, hrow, hc⟩, hB⟩
          exact ⟨_, v, hv, hrow, (List.take_of_length_le (by omega)).symm, hB⟩
        · rintro c pre W hp ⟨⟨rfl, hne, hge⟩, ⟨v, hv, hrow, hc⟩, hB⟩
          have h1 : pre.dropLast <+: fromP key L := (List.dropLast_prefix pre).trans hp
          have h2 := h1.length_le
          refine ⟨rfl, pre.dropLast, v, hv, hrow, ?_, hB⟩
          rw [show (max 0 (min most ((fromP key L).length : Int))).toNat = pre.dropLast.length by omega]
          exact List.prefix_iff_eq_take.1 h1
        · rintro D W hD ⟨q, v, hv, hrow, hq, hB⟩ hD2
          have hs := hB.size
          have tB : Turn (fun i => lo ≤ i) wA W := ⟨hB.os, hB.tape, hB.output, hB.size, fun i hi hni => hB.block i (by omega)⟩
          have H5 : Hid (OneS T W0 W p L F) := ⟨K.kept H4.out.tab tB (fun k hk h => by have := HFL.out k hk; omega), fun j hj => ⟨(H4.out.f j hj).1, by have := HFL.out j hj; omega⟩, H4.out.below.trans (tB.below (fun i hi => by omega) H4.out.below.size)⟩
          go_wp2_with fail
          refine (K.seq key H5.out.tab hk).mono ?_
          rintro e wB ⟨g2, lb2, Gs2, rfl, eg2, hgi2, hG2, bB, -⟩
          have hcol := collect_any g2 lb2 eg2 Gs2 (fromP key L) wB hG2 hfl (hgi2 _ (Below.refl _ _))
          clear hgi2
          go_wp2_with fail
          refine hcol.mono ?_
          rintro e wC ⟨vC, rfl, oC, bC⟩
          have hbC : Below W.heap.size W wC := bB.trans (bC.mono bB.size)
          have hlC : wC.cell? ⟨lo, 0, none⟩ = some v := (hbC.cell (p := ⟨lo, 0, none⟩) hv.lt).trans hv.cell
          have hmW := (hB.block _ (by omega)).trans HMA.out
          have hmC : wC.cell? ⟨w.heap.size, 0, none⟩ = some (.int .i64 most) := by rw [block_cell ((hbC.block _ (block_lt hmW)).trans hmW)]; rfl
          have HDC : Hid (wC.heap[D]? = some (.deferred (some []))) := (hbC.block _ (block_lt hD2)).trans hD2
          have HR1 : Hid (ReadP wC v q) := (ReadP.own hrow).below hbC
          have HR2 : Hid (ReadP wC vC (fromP key L)) := ReadP.own oC
          have HBE : Hid (Below W0.heap.size W0 wC) := H5.out.below.trans (hbC.mono H5.out.below.size)
          have HQ1 := Lib.hid hq
          clear hcol eg2 hG2 bB bC hrow hv hB tB hmW hD2 hq hbC
          obtain ⟨aq, cq, rfl⟩ := HR1.out.slice
          obtain ⟨aC, cC, rfl⟩ := HR2.out.slice
          obtain ⟨hcap, hcap2⟩ := own_cap oC
          clear oC
          go_upto_region 15 with (fail)
          have hge0 : ∀ h : 0 < (fromP key L).length, befB (fromP key L)[0].key key = false := fun h => by
            unfold fromP at h ⊢
            rw [List.getElem_drop]
            exact placeP_at (by rw [List.length_drop] at h; omega)
          have hR0 : (0 : Int) ≤ max 0 (min most ((fromP key L).length : Int)) := by omega
          have hR1 : max 0 (min most ((fromP key L).length : Int)) ≤ (cC : Int) := by omega
          have hRn : (max 0 (min most ((fromP key L).length : Int))).toNat ≤ (fromP key L).length := by omega
          have HR3 : Hid (ReadP wC (.slice aC (max 0 (min most ((fromP key L).length : Int))).toNat cC) q) := by
            have := HR2.out.take hRn
            rwa [← HQ1.out] at this
          by_cases hnil : (fromP key L).length = 0
          · have hn0 : (((fromP key L).length : Int) == 0) = true := by rw [hnil]; rfl
            clear hRn hge0 hnil hfl
            generalize (fromP key L).length = N at *
            go_quiet (first
              | (go_at_call 15; refine Calls.quiet_of (rsame_true (HR1.out.below (drawnB wC _)) (HR3.out.below (drawnB wC _)))))
            have hK : (wC.drewN nq).heap[D]? = some (.deferred (some [])) := ((drawnB wC nq).block D (block_lt HDC.out)).trans HDC.out
            have hbE : Below w.heap.size w (wC.drewN nq) := (HB0.out.trans (HBE.out.mono HB0.out.size)).trans ((drawnB wC nq).mono (by have := HBE.out.size; have := HB0.out.size; omega))
            go_wp2
            refine ⟨by simp, .inl ⟨_, _, rfl, run_takeDeferred hK, ?_⟩⟩
            exact ⟨_, results_tmp rfl _ _ _, rfl, hbE.trans (belowK_b (w := w) (Nat.le_refl _) (wC.drewN nq) D _ _ (by have := HB0.out.size; have := H4.out.below.size; omega) hK rfl rfl)⟩
          · have hn0 : (((fromP key L).length : Int) == 0) = false := by rw [beq_eq_false_iff_ne]; omega
            have hpos : 0 < (fromP key L).length := by omega
            obtain ⟨bc, oc, rfl, k0, k1, k2⟩ := HR2.out.at (i := 0) hpos
            have hge1 := hge0 hpos
            generalize fromP key L = M at *
            rw [Nat.zero_mul, Nat.add_zero] at k0
            generalize M[0].key = mk at *
            have hgeq : ∀ w, (binOp BinOp.geq 9 (.string mk) (.string key)).run Tryd.prog w = .ok (.bool true) w := geq_any hge1
            have hMi : (0 : Int) < (M.length : Int) := by omega
            go_quiet (first
              | (go_at_call 15; refine Calls.quiet_of (rsame_true (HR1.out.below (drawnB wC _)) (HR3.out.below (drawnB wC _)))))
            have hK : (wC.drewN nq).heap[D]? = some (.deferred (some [])) := ((drawnB wC nq).block D (block_lt HDC.out)).trans HDC.out
            have hbE : Below w.heap.size w (wC.drewN nq) := (HB0.out.trans (HBE.out.mono HB0.out.size)).trans ((drawnB wC nq).mono (by have := HBE.out.size; have := HB0.out.size; omega))
            go_wp2
            refine ⟨by simp, .inl ⟨_, _, rfl, run_takeDeferred hK, ?_⟩⟩
            exact ⟨_, results_tmp rfl _ _ _, rfl, hbE.trans (belowK_b (w := w) (Nat.le_refl _) (wC.drewN nq) D _ _ (by have := HB0.out.size; have := H4.out.below.size; omega) hK rfl rfl)⟩
end Go.Proofs.YtmmamgnbonpkiaaDoor

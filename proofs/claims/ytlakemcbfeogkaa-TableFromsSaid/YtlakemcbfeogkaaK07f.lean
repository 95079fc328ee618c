/- Layer 7: the walk of TableFroms, whatever the table. -/
import Derived.Test.YtlakemcbfeogkaaG9
import Derived.Test.YtlakemcbfeogkaaG5
import Derived.Deep.QuietTactic
import Derived.BigQuiet
namespace Go.Proofs.Ytlakemcbfeogkaa
open Go.RowKit Go.Maps Go.WideMaps Go.Shelf
set_option linter.unusedVariables false

attribute [local go_sem] Oper.semAt_some

theorem read7_take {w : World} {a : Option Addr} {n c : Nat} {l : List PairS} (h : ReadP w (.slice a n c) l) {r : Nat} (hr : r ≤ l.length) : ReadP w (.slice a r c) (l.take r) := by
  have hl : (l.take r).length = r := by rw [List.length_take]; omega
  obtain ⟨hm, a', c', hv, h1⟩ := h
  injection hv with e1 e2 e3
  subst e1; subst e3
  refine ⟨by omega, a, c, by rw [hl], ?_⟩
  rcases h1 with h1 | ⟨b, o, e, h1⟩
  · left; subst h1; simp
  · refine .inr ⟨b, o, e, fun i hi => ?_⟩
    have hi' : i < l.length := by omega
    rw [List.getElem_take]
    exact h1 i hi'
theorem geqb_any (a b : ByteArray) (w : World) : (binOp BinOp.geq 9 (.string a) (.string b)).run Try.prog w = .ok (.bool (!befB a b)) w := by
  unfold befB
  simp [binOp, Op.stringOp]
/-- The pairs from a key on. -/
def fltP (key : ByteArray) (l : List PairS) : List PairS := l.filter fun x => !befB x.key key
theorem fltP_snoc (key : ByteArray) (l : List PairS) (x : PairS) : fltP key (l ++ [x]) = if befB x.key key then fltP key l else fltP key l ++ [x] := by
  unfold fltP
  rw [List.filter_append]
  cases h : befB x.key key with
  | true => simp [h]
  | false => simp [h]
theorem fltP_len (key : ByteArray) (l : List PairS) : (fltP key l).length ≤ l.length := List.length_filter_le _ _
theorem fltP_from (key : ByteArray) : ∀ {l : List PairS}, RisingP l → fltP key l = fromP key l
  | [], _ => rfl
  | x :: r, h => by
    have h2 := List.pairwise_cons.1 h
    cases hb : befB x.key key with
    | true =>
      have ih := fltP_from key h2.2
      unfold fromP
      rw [placeP_cons, if_pos hb]
      unfold fromP at ih
      unfold fltP at ih ⊢
      rw [List.filter_cons, hb]
      simpa using ih
    | false =>
      have e : fromP key (x :: r) = x :: r := by unfold fromP; rw [placeP_cons, hb]; rfl
      rw [e]
      unfold fltP
      refine List.filter_eq_self.2 fun y hy => ?_
      rcases List.mem_cons.1 hy with rfl | hy
      · rw [hb]; rfl
      · have h3 := h2.1 y hy
        cases hy2 : befB y.key key with
        | false => rfl
        | true => rw [befB_trans h3 hy2] at hb; cases hb

theorem slice7 {w : World} {base : Nat} {v : Value} {l : List PairS} (h : w.ownsRow base 39 3 v l.length (rowP l)) {r : Nat} (hr : r ≤ l.length) :
    ∃ a c, (∀ wx, (Instr.slice 22 v none (some (.int .i64 (r : Int))) none).run Try.prog wx = .ok (.slice a r c) wx) ∧ ∀ w', ReadP w' v l → ReadP w' (.slice a r c) (l.take r) := by
  rcases h.2 with ⟨rfl, h0⟩ | ⟨g, cap, cur, rfl, _, hg, hle, hcm, _⟩
  · have hr0 : r = 0 := by omega
    subst hr0
    refine ⟨none, 0, fun wx => ?_, fun w' hw => ?_⟩
    · have := run_slice_h (P := Try.prog) (w := wx) 22 none 0 0 slPair .i64 0 (by omega) (by omega)
      rw [szPair] at this
      exact this
    · exact ⟨by simp, none, 0, rfl, .inl rfl⟩
  · refine ⟨some ⟨g, 0, none⟩, cap, fun wx => ?_, fun w' hw => read7_take hw hr⟩
    have := run_slice_h (P := Try.prog) (w := wx) 22 (some ⟨g, 0, none⟩) l.length cap slPair .i64 (r : Int) (by omega) (by omega)
    rw [szPair] at this
    rw [this]
    show Result.ok (sliced (some ⟨g, 0, none⟩) 0 ((r : Int).toNat) cap 3) wx = _
    unfold sliced
    simp [Addr.add]
theorem below_drew7 {B : Nat} {W w : World} {a b : Nat} (h : Below B W (w.drewN a)) : Below B W (w.drewN (a + b)) := by
  rw [← World.drewN_drewN]
  exact below_drewN h b
theorem same7_true {w : World} {x y : Value} {a : List PairS} (ha : ReadP w x a) (hb : ReadP w y a) : Calls Try.prog 15 #[x, y] w fun e w' => e = .returned (.bool true) ∧ ∃ n, w' = w.drewN n := by
  have := rsame_any ha hb
  rwa [sameP_refl] at this

set_option maxHeartbeats 8000000 in
set_option maxRecDepth 100000 in
theorem froms7_walk {T : World → Nat → List PairS → Nat → Prop} (K : TableK T) (a0 : Option Addr) (c0 : Nat) (ps : List PairS) (key : ByteArray) (most : Int) (w : World)
    (h0 : ReadP w (.slice a0 ps.length c0) ps) (hN : ps.length ≤ 3518437208780) (hk : key.size ≤ 281474976710656) (hm : (Lit.int .i64 most).wf = true) :
    Calls Try.prog 6 #[.slice a0 ps.length c0, .string key, .int .i64 most] w fun e w' => e = .returned (.bool true) ∧ Below w.heap.size w w' := by
  have hb := bounds_i64 hm
  obtain ⟨W0, hW0⟩ : ∃ W0, (w.alloc (.cells #[.string key] 9)).alloc (.cells #[.int .i64 most] 3) = W0 := ⟨_, rfl⟩
  have hs0 : W0.heap.size = w.heap.size + 2 := by rw [← hW0]; simp
  have hb1 : Below (w.alloc (.cells #[.string key] 9)).heap.size (w.alloc (.cells #[.string key] 9)) W0 := by rw [← hW0]; exact (Below.refl _ _).alloc (Nat.le_refl _) _
  have hb0 : Below w.heap.size w W0 := ((Below.refl _ w).alloc (Nat.le_refl _) _).trans (hb1.mono (by simp))
  have hkb : W0.heap[w.heap.size]? = some (.cells #[.string key] 9 (0, 0)) := (hb1.block _ (by simp)).trans (heap_alloc_new _ _)
  have hmo : W0.heap[w.heap.size + 1]? = some (.cells #[.int .i64 most] 3 (0, 0)) := by
    have := heap_alloc_new (w.alloc (.cells #[.string key] 9)) (.cells #[.int .i64 most] 3)
    rw [hW0, World.size_alloc] at this
    exact this
  have hLd := fun w' (b : Below W0.heap.size W0 w') => laid_any ((h0.below hb0).below b) (by omega)
  have hrs := putsP_rising ps ps.length
  have hfn := putsP_fine ps
  have hln := putsP_len ps ps.length
  rw [List.take_length] at hrs hln
  generalize putsP ps = L at *
  have HLD := Lib.hid hLd
  have HRS := Lib.hid hrs
  have HB0 := Lib.hid hb0
  have HKB := Lib.hid hkb
  have HMO := Lib.hid hmo
  clear hLd h0 hrs hfn hb1 hb0 hkb hmo
  refine (callsIn_wide (n := 6)).1 ?_
  refine callsIn_of_wp_marks Try.func6 rfl trivial ?_ rfl
  simp only [Try.ntmps6, List.size_toArray, List.length_cons, List.length_nil, Nat.reduceAdd, Nat.reduceSub, Array.replicate_succ, Array.replicate_zero, List.push_toArray, List.append_toArray, List.nil_append, List.cons_append]
  refine wpIn_wide.2 ?_
  go_wp2_with fail
  refine (awake7_any K _).mono ?_
  rintro e w1 ⟨rfl, b1⟩
  have B1 := Lib.hid b1
  clear b1
  go_wp2_with fail
  refine (HLD.out w1 B1.out).mono ?_
  rintro e w2 ⟨v, rfl, o2, b2⟩
  have B2 := Lib.hid (B1.out.trans (b2.mono B1.out.size))
  obtain ⟨va, vc, rfl⟩ := row_slice o2
  have hbd := K.build (ReadP.own o2) (own7_cap o2).1 (by omega)
  have hsz := buildS_size L
  clear b2 o2 HLD
  by_cases hE : buildE L = 0
  · have HTB := Lib.hid (build_tab hE)
    rw [hE] at hbd
    generalize buildS L = S at *
    go_wp2_with fail
    refine hbd.mono ?_
    rintro e w3 ⟨rfl, b3⟩
    have B3 := Lib.hid (B2.out.trans (b3.mono B2.out.size))
    clear b3 hbd
    go_wp2_with fail
    refine (K.opn S w3 hsz).mono ?_
    rintro e w4 ⟨h4, b4⟩
    have B4 := Lib.hid (B3.out.trans (b4.mono B3.out.size))
    clear b4
    rcases h4 with ⟨l', p, rfl, ht, hT⟩ | ⟨rfl, hn⟩
    · have hl := tab_one ht HTB.out
      subst hl
      have T4 := Lib.hid hT
      clear ht hT
      have h0s := HB0.out.size
      obtain ⟨lo, hlo⟩ : ∃ lo, w4.heap.size = lo := ⟨_, rfl⟩
      have HLO := Lib.hid hlo
      have hw0 : W0.heap.size ≤ lo := by have := B4.out.size; omega
      have bL := (Below.refl w4.heap.size w4).alloc (Nat.le_refl _) (.cells #[.slice none 0 0] 22)
      have hbox : Boxed (w4.alloc (.cells #[.slice none 0 0] 22)) lo 22 (.slice none 0 0) := by rw [← hlo]; exact Boxed.new _ _ _
      have T5 := Lib.hid (K.below T4.out bL)
      have B5 := Lib.hid (B4.out.trans (bL.mono B4.out.size))
      have HBX := Lib.hid hbox
      have h5s : (w4.alloc (.cells #[.slice none 0 0] 22)).heap.size = lo + 1 := by rw [World.size_alloc, hlo]
      have H5S := Lib.hid h5s
      clear bL hbox h5s T4
      go_wp2_with fail
      generalize w4.alloc (.cells #[.slice none 0 0] 22) = w5 at *
      rw [hlo] at *
      refine (K.seq ⟨#[]⟩ T5.out (by have := H5S.out; omega) (by decide)).mono ?_
      rintro e wA ⟨g, lb, G, rfl, eg, hgi, hG, bA, hGB⟩
      have TA := Lib.hid (K.below T5.out (bA.mono (by have := H5S.out; omega)))
      have BA := Lib.hid (B5.out.trans (bA.mono B5.out.size))
      have hseq := hgi wA (Below.refl _ _)
      rw [from_nil] at hseq
      have hA1 : lo + 1 ≤ wA.heap.size := by have := bA.size; have := H5S.out; omega
      have HBA := Lib.hid ((bA.block lo (by have := H5S.out; omega)).trans HBX.out)
      have HGL : Hid (∀ j, G j → j ≠ lo) := fun j hj e => by
        have := H5S.out
        rcases hGB j hj with h | h <;> omega
      have HKA := Lib.hid ((BA.out.block _ (by omega)).trans HKB.out)
      have HMA := Lib.hid ((BA.out.block _ (by omega)).trans HMO.out)
      obtain ⟨i0, hi, hz0, hz1, hz2⟩ := info_parts infoPair
      have hlen : l'.length ≤ 3518437208780 := by omega
      clear hgi bA hGB HBX B5 T5 H5S
      go_wp2_with fail
      refine range_boxP (n := 5) 34 12 (by omega) rfl eg hseq (Below.refl _ _) hG rfl
        (fun pre W => (∃ v, Boxed W lo 22 v ∧ W.ownsRow wA.heap.size 39 3 v (fltP key pre).length (rowP (fltP key pre)) ∧ True) ∧ Below lo wA W)
        (fun c pre W => False ∧ Below lo wA W)
        (OwnFrom.and (Own.from (holdsRow_own wA.heap.size lo 22 39 3 (fun (pre : List PairS) => (fltP key pre).length) (fun (pre : List PairS) => rowP (fltP key pre)) (fun (pre : List PairS) _ => True)) _) (ownFrom_below (by omega) (by omega)))
        (fun c => OwnFrom.and (ownFrom_pure _ _) (ownFrom_below (by omega) (by omega)))
        ⟨⟨_, HBA.out, World.ownsRow_nil _ _ _ _, trivial⟩, Below.refl _ _⟩
        ?assign ?body ?rest
      case assign =>
        rintro l pre x W K' ⟨⟨v, hv, hrow, hc⟩, hB⟩ hK
        have hs := hB.size
        unfold PairS.val' at *
        gi_wp2
        exact hK _ _ (by omega) (PairBox.new W x) ((KeepsOthers.alloc _ _).from _) (Keeps.of_below ((Below.refl _ W).alloc (Nat.le_refl _) _) (fun k hk => by have := hG k hk; omega)) ⟨⟨v, hv.alloc _, hrow.alloc _, hc⟩, hB.alloc (by omega) _⟩
      case body =>
        rintro l pre x Bx W hl ⟨r, hr⟩ ⟨⟨v, hv, hrow, hc⟩, hB⟩ hBx hbx hlt
        have x0 := hbx.c0
        have x1 := hbx.c1
        have x2 := hbx.c2
        have c0 := hv.cell
        have f0 := hv.frozen
        have hs := hB.size
        have hkW : W.cell? ⟨w.heap.size, 0, none⟩ = some (.string key) := by rw [block_cell ((hB.block _ (by omega)).trans HKA.out)]; rfl
        have hne : (22 : TypeId) ≠ 39 := by decide
        have hgq := geqb_any x.key key
        have hfs := fltP_snoc key pre x
        have hfl := fltP_len key pre
        obtain ⟨av, cv, rfl⟩ := (ReadP.own hrow).slice
        unfold PairS.val'
        cases hbf : befB x.key key with
        | true =>
          rw [hbf] at hgq
          rw [hbf, if_pos rfl] at hfs
          have HFS := Lib.hid hfs
          clear hfs
          gi_wp2
          exact ⟨KeepsFrom.refl _ _, Keeps.refl _ _, ⟨_, hv, by rw [HFS.out]; exact hrow, trivial⟩, hB⟩
        | false =>
          rw [hbf] at hgq
          rw [hbf, if_neg (by simp)] at hfs
          have HFS := Lib.hid hfs
          clear hfs
          gi_wp2_with (gi_at_builtin; go_loud (refine wpListIn_append_own _ rfl _ _ 22 rfl wA.heap.size 39 i0 _ 3 40 Try.underlying22 hi hz0 hz1 hz2 rfl (by decide) _ _ _ rfl (hrow.alloc _) ⟨W.heap.size, 0, none⟩ 1 1 [.string x.key, .string x.val, .bool x.gone] rfl rfl (cells_new _ _) (three_one x) (by unfold maxLen; omega) (by omega) (by simp; omega) ?_; intro v' w1 hown' hgrow _; obtain ⟨g', cap', rfl⟩ := ownsRow_succ hown'; obtain ⟨hv1, hv2, hr2, hk2, hb2⟩ := hv.appended hne (ownsRow_low hrow (show lo ≤ wA.heap.size by omega)) (by omega) (Nat.le_refl _) (ownsRow_low hown' (show lo ≤ wA.heap.size by omega)) hgrow; have hv3 := hv.not_row hne hrow; have hr3 : (w1.setCell ⟨lo, 0, none⟩ (.slice (some ⟨g', 0, none⟩) ((fltP key pre).length + 1) cap')).ownsRow wA.heap.size 39 3 (.slice (some ⟨g', 0, none⟩) ((fltP key pre).length + 1) cap') _ _ := hown'.kept (grownBy_setCell' w1 lo _) (.inr (hv1.not_row hne hown').symm); have hc1 := hv1.cell; have hf1 := hv1.frozen))
          exact ⟨hk2.from _, fun k hk => (block_other (HGL.out k hk)).trans ((hgrow.block k (by have := hG k hk; simp; omega) (fun e => by have := (hrow.lt k e.symm).1; have := hG k hk; omega)).trans (Below.heap_alloc _ _ _ (by have := hG k hk; omega))), ⟨_, hv2, by rw [HFS.out, rowP_snoc, List.length_append]; exact hr3, trivial⟩, hB.trans hb2⟩
      case rest =>
        refine EndsP.block (fun W => ∃ v, Boxed W lo 22 v ∧ W.ownsRow wA.heap.size 39 3 v (fltP key l').length (rowP (fltP key l')) ∧ Below lo wA W) ?_ ?_ ?_
        · rintro W ⟨⟨v, hv, hrow, hc⟩, hB⟩
          exact ⟨v, hv, hrow, hB⟩
        · rintro c pre W hp ⟨h, _⟩
          exact h.elim
        · rintro D W hD ⟨v, hv, hrow, hB⟩ hD2
          rw [fltP_from key HRS.out] at hrow
          have hs := hB.size
          obtain ⟨lo2, hlo2⟩ : ∃ lo2, W.heap.size = lo2 := ⟨_, rfl⟩
          have hDl : D < lo2 := by rw [← hlo2]; exact block_lt hD2
          have hvl := hv.lt
          have bL2 := (Below.refl W.heap.size W).alloc (Nat.le_refl _) (.cells #[.slice none 0 0] 22)
          have hbox2 : Boxed (W.alloc (.cells #[.slice none 0 0] 22)) lo2 22 (.slice none 0 0) := by rw [← hlo2]; exact Boxed.new _ _ _
          have TW := Lib.hid (K.below (K.below TA.out hB) (bL2.mono (by omega)))
          have hBT := hB.trans (bL2.mono (by omega))
          have BW := Lib.hid (BA.out.trans (hBT.mono (by omega)))
          have HV2 : Hid ((Boxed (W.alloc (.cells #[.slice none 0 0] 22)) lo 22 v ∧ (W.alloc (.cells #[.slice none 0 0] 22)).ownsRow wA.heap.size 39 3 v (fromP key l').length (rowP (fromP key l'))) ∧ ∀ k, v.ownBlock = some k → k < lo2) := ⟨⟨hv.alloc _, hrow.alloc _⟩, fun k hk => by rw [← hlo2]; exact (hrow.lt k hk).2⟩
          have HD2 : Hid ((W.alloc (.cells #[.slice none 0 0] 22)).heap[D]? = some (.deferred (some []))) := (bL2.block _ (block_lt hD2)).trans hD2
          have HBX2 := Lib.hid hbox2
          have h2s : (W.alloc (.cells #[.slice none 0 0] 22)).heap.size = lo2 + 1 := by rw [World.size_alloc, hlo2]
          have H2S := Lib.hid h2s
          have k0 : (W.alloc (.cells #[.slice none 0 0] 22)).cell? ⟨w.heap.size, 0, none⟩ = some (.string key) := by rw [block_cell ((hBT.block _ (by omega)).trans HKA.out)]; rfl
          have HLO2 := Lib.hid hlo2
          clear bL2 hbox2 h2s hv hrow hD2 hB hBT
          go_wp2_with fail
          generalize W.alloc (.cells #[.slice none 0 0] 22) = W5 at *
          rw [hlo2] at *
          refine (K.seq key TW.out (by have := H2S.out; omega) hk).mono ?_
          rintro e wB ⟨g2, lb2, G2, rfl, eg2, hgi2, hG2, bB, hGB2⟩
          have TB := Lib.hid (K.below TW.out (bB.mono (by have := H2S.out; omega)))
          have BB := Lib.hid (BW.out.trans (bB.mono BW.out.size))
          have hseq2 := hgi2 wB (Below.refl _ _)
          have hB1 : lo2 + 1 ≤ wB.heap.size := by have := bB.size; have := H2S.out; omega
          have HBB := Lib.hid ((bB.block lo2 (by have := H2S.out; omega)).trans HBX2.out)
          have HV3 : Hid ((Boxed wB lo 22 v ∧ wB.ownsRow wA.heap.size 39 3 v (fromP key l').length (rowP (fromP key l'))) ∧ ∀ k, v.ownBlock = some k → k < lo2) := ⟨⟨(bB.block lo (by have := H2S.out; omega)).trans HV2.out.1.1, ownsRow_below HV2.out.1.2 bB⟩, HV2.out.2⟩
          have HD3 : Hid (wB.heap[D]? = some (.deferred (some []))) := (bB.block _ (block_lt HD2.out)).trans HD2.out
          have HGL2 : Hid (∀ j, G2 j → j ≠ lo2) := fun j hj e => by
            have := H2S.out
            rcases hGB2 j hj with h | h <;> omega
          have HKB2 := Lib.hid ((BB.out.block _ (by omega)).trans HKB.out)
          have HMB2 := Lib.hid ((BB.out.block _ (by omega)).trans HMO.out)
          have hfl : (fromP key l').length ≤ 3518437208780 := by unfold fromP; rw [List.length_drop]; omega
          clear hgi2 bB hGB2 HBX2 BW TW H2S HV2 HD2 k0
          go_wp2_with fail
          refine range_boxP (n := 5) 46 14 (by omega) rfl eg2 hseq2 (Below.refl _ _) hG2 rfl
            (fun pre W => (∃ v, Boxed W lo2 22 v ∧ W.ownsRow wB.heap.size 39 3 v pre.length (rowP pre) ∧ (pre.length : Int) ≤ max 0 most) ∧ Below lo2 wB W)
            (fun c pre W => (c = .exit 2 ∧ pre ≠ [] ∧ most ≤ (pre.dropLast.length : Int)) ∧ (∃ v, Boxed W lo2 22 v ∧ W.ownsRow wB.heap.size 39 3 v pre.dropLast.length (rowP pre.dropLast) ∧ (pre.dropLast.length : Int) ≤ max 0 most) ∧ Below lo2 wB W)
            (OwnFrom.and (Own.from (holdsRow_own wB.heap.size lo2 22 39 3 (fun (pre : List PairS) => pre.length) (fun (pre : List PairS) => rowP pre) (fun (pre : List PairS) _ => (pre.length : Int) ≤ max 0 most)) _) (ownFrom_below (by omega) (by omega)))
            (fun c => OwnFrom.and (ownFrom_pure _ _) (OwnFrom.and (Own.from (holdsRow_own wB.heap.size lo2 22 39 3 (fun (pre : List PairS) => pre.dropLast.length) (fun (pre : List PairS) => rowP pre.dropLast) (fun (pre : List PairS) _ => (pre.dropLast.length : Int) ≤ max 0 most)) _) (ownFrom_below (by omega) (by omega))))
            ⟨⟨_, HBB.out, World.ownsRow_nil _ _ _ _, by simp; omega⟩, Below.refl _ _⟩
            ?assign2 ?body2 ?rest2
          case assign2 =>
            rintro l pre x W K' ⟨⟨v, hv, hrow, hc⟩, hB⟩ hK
            have hs := hB.size
            unfold PairS.val' at *
            gi_wp2
            exact hK _ _ (by omega) (PairBox.new W x) ((KeepsOthers.alloc _ _).from _) (Keeps.of_below ((Below.refl _ W).alloc (Nat.le_refl _) _) (fun k hk => by have := hG2 k hk; omega)) ⟨⟨v, hv.alloc _, hrow.alloc _, hc⟩, hB.alloc (by omega) _⟩
          case body2 =>
            rintro l pre x Bx W hl ⟨r, hr⟩ ⟨⟨v, hv, hrow, hc⟩, hB⟩ hBx hbx hlt
            have x0 := hbx.c0
            have x1 := hbx.c1
            have x2 := hbx.c2
            have c0 := hv.cell
            have f0 := hv.frozen
            have hs := hB.size
            have hmoW : W.cell? ⟨w.heap.size + 1, 0, none⟩ = some (.int .i64 most) := by rw [block_cell ((hB.block _ (by omega)).trans HMB2.out)]; rfl
            have hne : (22 : TypeId) ≠ 39 := by decide
            obtain ⟨av, cv, rfl⟩ := (ReadP.own hrow).slice
            unfold PairS.val'
            by_cases hge : most ≤ (pre.length : Int)
            · gi_wp2
              exact ⟨KeepsFrom.refl _ _, ⟨rfl, by simp, by simpa using hge⟩, ⟨_, hv, by simpa using hrow, by simpa using hc⟩, hB⟩
            · gi_wp2_with (gi_at_builtin; go_loud (refine wpListIn_append_own _ rfl _ _ 22 rfl wB.heap.size 39 i0 _ 3 40 Try.underlying22 hi hz0 hz1 hz2 rfl (by decide) _ _ _ rfl (hrow.alloc _) ⟨W.heap.size, 0, none⟩ 1 1 [.string x.key, .string x.val, .bool x.gone] rfl rfl (cells_new _ _) (three_one x) (by unfold maxLen; omega) (by omega) (by simp; omega) ?_; intro v' w1 hown' hgrow _; obtain ⟨g', cap', rfl⟩ := ownsRow_succ hown'; obtain ⟨hv1, hv2, hr2, hk2, hb2⟩ := hv.appended hne (ownsRow_low hrow (show lo2 ≤ wB.heap.size by omega)) (by omega) (Nat.le_refl _) (ownsRow_low hown' (show lo2 ≤ wB.heap.size by omega)) hgrow; have hv3 := hv.not_row hne hrow; have hr3 : (w1.setCell ⟨lo2, 0, none⟩ (.slice (some ⟨g', 0, none⟩) (pre.length + 1) cap')).ownsRow wB.heap.size 39 3 (.slice (some ⟨g', 0, none⟩) (pre.length + 1) cap') _ _ := hown'.kept (grownBy_setCell' w1 lo2 _) (.inr (hv1.not_row hne hown').symm); have hc1 := hv1.cell; have hf1 := hv1.frozen))
              exact ⟨hk2.from _, fun k hk => (block_other (HGL2.out k hk)).trans ((hgrow.block k (by have := hG2 k hk; simp; omega) (fun e => by have := (hrow.lt k e.symm).1; have := hG2 k hk; omega)).trans (Below.heap_alloc _ _ _ (by have := hG2 k hk; omega))), ⟨_, hv2, by rw [rowP_snoc, List.length_append]; exact hr3, by rw [List.length_append]; simp; omega⟩, hB.trans hb2⟩
          case rest2 =>
            refine EndsP.block (fun W => ∃ q v2, Boxed W lo2 22 v2 ∧ W.ownsRow wB.heap.size 39 3 v2 q.length (rowP q) ∧ q = (fromP key l').take (max 0 (min most ((fromP key l').length : Int))).toNat ∧ Below lo2 wB W) ?_ ?_ ?_
            · rintro W ⟨⟨v2, hv, hrow, hc⟩, hB⟩
              exact ⟨_, v2, hv, hrow, (List.take_of_length_le (by omega)).symm, hB⟩
            · rintro c pre W hp ⟨⟨rfl, hne, hge⟩, ⟨v2, hv, hrow, hc⟩, hB⟩
              have h1 : pre.dropLast <+: fromP key l' := (List.dropLast_prefix pre).trans hp
              have h2 := h1.length_le
              refine ⟨rfl, pre.dropLast, v2, hv, hrow, ?_, hB⟩
              rw [show (max 0 (min most ((fromP key l').length : Int))).toNat = pre.dropLast.length by omega]
              exact List.prefix_iff_eq_take.1 h1
            · rintro D2 W2 hDD ⟨q, v2, hv2, hrow2, hq, hB2⟩ hK2
              have hs2 := hB2.size
              have tB : Turn (fun i => lo2 ≤ i) wB W2 := ⟨hB2.os, hB2.tape, hB2.output, hB2.size, fun i hi hni => hB2.block i (by omega)⟩
              have TZ := Lib.hid (K.below TB.out (hB2.mono (by omega)))
              have hloW : lo ≤ W2.heap.size := by omega
              have hN3 : (fromP key l').length ≤ 3518437208880 := by omega
              have HR0 := Lib.hid (ReadP.own (tB.row HV3.out.1.2 (fun k hk h => by have := HV3.out.2 k hk; omega)))
              obtain ⟨hcap, hcap2⟩ : (∃ a c, v = .slice a (fromP key l').length c ∧ (fromP key l').length ≤ c ∧ c ≤ maxLen) ∧ True := by
                obtain ⟨a, c, e⟩ := HR0.out.slice
                have := own7_cap (by rw [← e]; exact HV3.out.1.2)
                exact ⟨⟨a, c, e, this.1, this.2⟩, trivial⟩
              have HSL : Hid (∀ r, r ≤ (fromP key l').length → ∃ a c, (∀ wx, (Instr.slice 22 v none (some (.int .i64 (r : Int))) none).run Try.prog wx = .ok (.slice a r c) wx) ∧ ∀ w', ReadP w' v (fromP key l') → ReadP w' (.slice a r c) ((fromP key l').take r)) := fun r hr => slice7 HV3.out.1.2 hr
              obtain ⟨aw, cw, rfl, hcw1, hcw2⟩ := hcap
              obtain ⟨ag, cg, rfl⟩ := row_slice hrow2
              have HR1 := Lib.hid (ReadP.own hrow2)
              have hRn : (max 0 (min most ((fromP key l').length : Int))).toNat ≤ (fromP key l').length := by omega
              have HQ : Hid (q = (fromP key l').take (max 0 (min most ((fromP key l').length : Int))).toNat) := hq
              have l0 : W2.cell? ⟨lo, 0, none⟩ = some (.slice aw (fromP key l').length cw) := Boxed.cell ((hB2.block lo (by omega)).trans HV3.out.1.1)
              have l1 := hv2.cell
              have l2 : W2.cell? ⟨w.heap.size, 0, none⟩ = some (.string key) := by rw [block_cell ((hB2.block _ (by omega)).trans HKB2.out)]; rfl
              have l3 : W2.cell? ⟨w.heap.size + 1, 0, none⟩ = some (.int .i64 most) := by rw [block_cell ((hB2.block _ (by omega)).trans HMB2.out)]; rfl
              have HD4 : Hid (W2.heap[D]? = some (.deferred (some []))) := (hB2.block D hDl).trans HD3.out
              have HK2 := Lib.hid hK2
              have HDD : Hid (D ≠ D2) := fun e => by omega
              have HBE : Hid (Below w.heap.size w W2) := HB0.out.trans ((BB.out.trans (hB2.mono (by omega))).mono HB0.out.size)
              have SB : Hid (∀ w', Below W2.heap.size W2 w' → w'.cell? ⟨lo, 0, none⟩ = some (.slice aw (fromP key l').length cw) ∧ w'.cell? ⟨lo2, 0, none⟩ = some (.slice ag q.length cg) ∧ w'.cell? ⟨w.heap.size, 0, none⟩ = some (.string key) ∧ w'.cell? ⟨w.heap.size + 1, 0, none⟩ = some (.int .i64 most)) := fun w' t => by
                have lt : ∀ {b i : Nat} {u : Value}, W2.cell? ⟨b, i, none⟩ = some u → w'.cell? ⟨b, i, none⟩ = some u := fun {b i u} h => (t.cell (World.block_lt_of_cell? W2 ⟨b, i, none⟩ h)).trans h
                exact ⟨lt l0, lt l1, lt l2, lt l3⟩
              clear hq hRn hv2 hrow2 tB hB2 hK2 HV3
              go_upto_region 19 with (fail)
              by_cases hA : ((fromP key l').length : Int) < most
              · by_cases h2 : 0 < (fromP key l').length
                · have HR3 : Hid (ReadP W2 (.slice aw ((fromP key l').length) cw) q) := by
                    have h1 := read7_take HR0.out (r := (max 0 (min most ((fromP key l').length : Int))).toNat) (by omega)
                    rw [← HQ.out] at h1
                    rwa [show (max 0 (min most ((fromP key l').length : Int))).toNat = (fromP key l').length by omega] at h1
                  have hq1 : ((fromP key l').length : Int) ≤ (cw : Int) := by omega
                  go_region_held3 (fun w' => w'.cell? ⟨lo, 0, none⟩ = some (.slice aw (fromP key l').length cw) ∧ w'.cell? ⟨lo2, 0, none⟩ = some (.slice ag q.length cg) ∧ w'.cell? ⟨w.heap.size, 0, none⟩ = some (.string key) ∧ w'.cell? ⟨w.heap.size + 1, 0, none⟩ = some (.int .i64 most)) (exact SB.out _ (by repeat (first | exact BG.out | exact BF.out | exact BE.out | exact BD.out | exact Below.refl _ _ | apply Below.drew)))
                    (first
                    | (go_at_call 17; refine (K.seq key (K.below TZ.out ((by repeat (first | exact Below.refl _ _ | apply Below.drew) : Below W2.heap.size W2 _).mono hloW)) (Nat.le_trans hloW (Below.size (show Below W2.heap.size W2 _ by repeat (first | exact Below.refl _ _ | apply Below.drew)))) hk).mono ?_; rintro e wD ⟨g3, lb3, G3, rfl, eg3, hgi3, hG3, bD, -⟩; have BD : Hid (Below W2.heap.size W2 wD) := below_next (by repeat (first | exact Below.refl _ _ | apply Below.drew)) (Nat.le_refl _) bD)
                    | (go_at_call 16; refine (collect_any g3 lb3 eg3 G3 _ _ hG3 hN3 (hgi3 _ (by repeat (first | exact Below.refl _ _ | apply Below.drew)))).mono ?_; rintro e wE ⟨vE, rfl, oE, bE⟩; have BE : Hid (Below W2.heap.size W2 wE) := below_next (by repeat (first | exact BD.out | apply Below.drew)) (Nat.le_refl _) bE; have rE := Lib.hid (ReadP.own oE))
                    | (go_at_call 15; have hbf := BF; clear hbf; refine (same7_true (HR1.out.below (by repeat (first | exact BF.out | apply Below.drew))) (HR3.out.below (by repeat (first | exact BF.out | apply Below.drew)))).mono ?_; rintro e wG ⟨rfl, nG, rfl⟩; have BG : Hid (Below W2.heap.size W2 (wE.drewN (nF + nG))) := below_drew7 BF.out)
                    | (go_at_call 15; refine (same7_true (rE.out.below (by repeat (first | exact Below.refl _ _ | apply Below.drew))) (HR0.out.below (by repeat (first | exact BE.out | apply Below.drew)))).mono ?_; rintro e wF ⟨rfl, nF, rfl⟩; have BF : Hid (Below W2.heap.size W2 (wE.drewN nF)) := below_next BE.out (Nat.le_refl _) (drawnB wE nF))
                    )
                  all_goals
                    have hZ2 := (BG.out.block _ (block_lt HK2.out)).trans HK2.out
                    have hZ1 := (BG.out.block _ (block_lt HD4.out)).trans HD4.out
                    have HZ2 := Lib.hid hZ2
                    have HZ1 := Lib.hid hZ1
                    have HZB := Lib.hid (HBE.out.trans (BG.out.mono HBE.out.size))
                    go_wp2
                    refine ⟨by simp, .inl ⟨_, _, rfl, run_takeDeferred HZ2.out, ?_⟩⟩
                    have hY1 := (World.putObj_heap_other (w := wE.drewN (nF + nG)) (o := .deferred none) HDD.out).trans HZ1.out
                    refine ⟨by simp, .inl ⟨_, _, rfl, run_takeDeferred hY1, ?_⟩⟩
                    exact ⟨_, results_tmp rfl _ _ _, rfl, HZB.out.trans ((belowK_b (w := w) (Nat.le_refl _) _ D2 _ _ (by omega) HZ2.out rfl rfl).trans (belowK_b (w := w) (Nat.le_refl _) _ D _ _ (by omega) hY1 rfl rfl))⟩
                · have HR3 : Hid (ReadP W2 (.slice aw (0) cw) q) := by
                    have h1 := read7_take HR0.out (r := (max 0 (min most ((fromP key l').length : Int))).toNat) (by omega)
                    rw [← HQ.out] at h1
                    rwa [show (max 0 (min most ((fromP key l').length : Int))).toNat = 0 by omega] at h1
                  have hq1 : (0 : Int) ≤ (cw : Int) := by omega
                  go_region_held3 (fun w' => w'.cell? ⟨lo, 0, none⟩ = some (.slice aw (fromP key l').length cw) ∧ w'.cell? ⟨lo2, 0, none⟩ = some (.slice ag q.length cg) ∧ w'.cell? ⟨w.heap.size, 0, none⟩ = some (.string key) ∧ w'.cell? ⟨w.heap.size + 1, 0, none⟩ = some (.int .i64 most)) (exact SB.out _ (by repeat (first | exact BG.out | exact BF.out | exact BE.out | exact BD.out | exact Below.refl _ _ | apply Below.drew)))
                    (first
                    | (go_at_call 17; refine (K.seq key (K.below TZ.out ((by repeat (first | exact Below.refl _ _ | apply Below.drew) : Below W2.heap.size W2 _).mono hloW)) (Nat.le_trans hloW (Below.size (show Below W2.heap.size W2 _ by repeat (first | exact Below.refl _ _ | apply Below.drew)))) hk).mono ?_; rintro e wD ⟨g3, lb3, G3, rfl, eg3, hgi3, hG3, bD, -⟩; have BD : Hid (Below W2.heap.size W2 wD) := below_next (by repeat (first | exact Below.refl _ _ | apply Below.drew)) (Nat.le_refl _) bD)
                    | (go_at_call 16; refine (collect_any g3 lb3 eg3 G3 _ _ hG3 hN3 (hgi3 _ (by repeat (first | exact Below.refl _ _ | apply Below.drew)))).mono ?_; rintro e wE ⟨vE, rfl, oE, bE⟩; have BE : Hid (Below W2.heap.size W2 wE) := below_next (by repeat (first | exact BD.out | apply Below.drew)) (Nat.le_refl _) bE; have rE := Lib.hid (ReadP.own oE))
                    | (go_at_call 15; have hbf := BF; clear hbf; refine (same7_true (HR1.out.below (by repeat (first | exact BF.out | apply Below.drew))) (HR3.out.below (by repeat (first | exact BF.out | apply Below.drew)))).mono ?_; rintro e wG ⟨rfl, nG, rfl⟩; have BG : Hid (Below W2.heap.size W2 (wE.drewN (nF + nG))) := below_drew7 BF.out)
                    | (go_at_call 15; refine (same7_true (rE.out.below (by repeat (first | exact Below.refl _ _ | apply Below.drew))) (HR0.out.below (by repeat (first | exact BE.out | apply Below.drew)))).mono ?_; rintro e wF ⟨rfl, nF, rfl⟩; have BF : Hid (Below W2.heap.size W2 (wE.drewN nF)) := below_next BE.out (Nat.le_refl _) (drawnB wE nF))
                    )
                  all_goals
                    have hZ2 := (BG.out.block _ (block_lt HK2.out)).trans HK2.out
                    have hZ1 := (BG.out.block _ (block_lt HD4.out)).trans HD4.out
                    have HZ2 := Lib.hid hZ2
                    have HZ1 := Lib.hid hZ1
                    have HZB := Lib.hid (HBE.out.trans (BG.out.mono HBE.out.size))
                    go_wp2
                    refine ⟨by simp, .inl ⟨_, _, rfl, run_takeDeferred HZ2.out, ?_⟩⟩
                    have hY1 := (World.putObj_heap_other (w := wE.drewN (nF + nG)) (o := .deferred none) HDD.out).trans HZ1.out
                    refine ⟨by simp, .inl ⟨_, _, rfl, run_takeDeferred hY1, ?_⟩⟩
                    exact ⟨_, results_tmp rfl _ _ _, rfl, HZB.out.trans ((belowK_b (w := w) (Nat.le_refl _) _ D2 _ _ (by omega) HZ2.out rfl rfl).trans (belowK_b (w := w) (Nat.le_refl _) _ D _ _ (by omega) hY1 rfl rfl))⟩
              · by_cases h2 : (0 : Int) < most
                · have HR3 : Hid (ReadP W2 (.slice aw (most.toNat) cw) q) := by
                    have h1 := read7_take HR0.out (r := (max 0 (min most ((fromP key l').length : Int))).toNat) (by omega)
                    rw [← HQ.out] at h1
                    rwa [show (max 0 (min most ((fromP key l').length : Int))).toNat = most.toNat by omega] at h1
                  have hA3 : (((fromP key l').length : Int) < most) = False := eq_false hA
                  have hq0 : (0 : Int) ≤ most := by omega
                  have hq1 : most ≤ (cw : Int) := by omega
                  go_region_held3 (fun w' => w'.cell? ⟨lo, 0, none⟩ = some (.slice aw (fromP key l').length cw) ∧ w'.cell? ⟨lo2, 0, none⟩ = some (.slice ag q.length cg) ∧ w'.cell? ⟨w.heap.size, 0, none⟩ = some (.string key) ∧ w'.cell? ⟨w.heap.size + 1, 0, none⟩ = some (.int .i64 most)) (exact SB.out _ (by repeat (first | exact BG.out | exact BF.out | exact BE.out | exact BD.out | exact Below.refl _ _ | apply Below.drew)))
                    (first
                    | (go_at_call 17; refine (K.seq key (K.below TZ.out ((by repeat (first | exact Below.refl _ _ | apply Below.drew) : Below W2.heap.size W2 _).mono hloW)) (Nat.le_trans hloW (Below.size (show Below W2.heap.size W2 _ by repeat (first | exact Below.refl _ _ | apply Below.drew)))) hk).mono ?_; rintro e wD ⟨g3, lb3, G3, rfl, eg3, hgi3, hG3, bD, -⟩; have BD : Hid (Below W2.heap.size W2 wD) := below_next (by repeat (first | exact Below.refl _ _ | apply Below.drew)) (Nat.le_refl _) bD)
                    | (go_at_call 16; refine (collect_any g3 lb3 eg3 G3 _ _ hG3 hN3 (hgi3 _ (by repeat (first | exact Below.refl _ _ | apply Below.drew)))).mono ?_; rintro e wE ⟨vE, rfl, oE, bE⟩; have BE : Hid (Below W2.heap.size W2 wE) := below_next (by repeat (first | exact BD.out | apply Below.drew)) (Nat.le_refl _) bE; have rE := Lib.hid (ReadP.own oE))
                    | (go_at_call 15; have hbf := BF; clear hbf; refine (same7_true (HR1.out.below (by repeat (first | exact BF.out | apply Below.drew))) (HR3.out.below (by repeat (first | exact BF.out | apply Below.drew)))).mono ?_; rintro e wG ⟨rfl, nG, rfl⟩; have BG : Hid (Below W2.heap.size W2 (wE.drewN (nF + nG))) := below_drew7 BF.out)
                    | (go_at_call 15; refine (same7_true (rE.out.below (by repeat (first | exact Below.refl _ _ | apply Below.drew))) (HR0.out.below (by repeat (first | exact BE.out | apply Below.drew)))).mono ?_; rintro e wF ⟨rfl, nF, rfl⟩; have BF : Hid (Below W2.heap.size W2 (wE.drewN nF)) := below_next BE.out (Nat.le_refl _) (drawnB wE nF))
                    )
                  all_goals
                    have hZ2 := (BG.out.block _ (block_lt HK2.out)).trans HK2.out
                    have hZ1 := (BG.out.block _ (block_lt HD4.out)).trans HD4.out
                    have HZ2 := Lib.hid hZ2
                    have HZ1 := Lib.hid hZ1
                    have HZB := Lib.hid (HBE.out.trans (BG.out.mono HBE.out.size))
                    go_wp2
                    refine ⟨by simp, .inl ⟨_, _, rfl, run_takeDeferred HZ2.out, ?_⟩⟩
                    have hY1 := (World.putObj_heap_other (w := wE.drewN (nF + nG)) (o := .deferred none) HDD.out).trans HZ1.out
                    refine ⟨by simp, .inl ⟨_, _, rfl, run_takeDeferred hY1, ?_⟩⟩
                    exact ⟨_, results_tmp rfl _ _ _, rfl, HZB.out.trans ((belowK_b (w := w) (Nat.le_refl _) _ D2 _ _ (by omega) HZ2.out rfl rfl).trans (belowK_b (w := w) (Nat.le_refl _) _ D _ _ (by omega) hY1 rfl rfl))⟩
                · have HR3 : Hid (ReadP W2 (.slice aw (0) cw) q) := by
                    have h1 := read7_take HR0.out (r := (max 0 (min most ((fromP key l').length : Int))).toNat) (by omega)
                    rw [← HQ.out] at h1
                    rwa [show (max 0 (min most ((fromP key l').length : Int))).toNat = 0 by omega] at h1
                  have hA3 : (((fromP key l').length : Int) < most) = False := eq_false hA
                  have h23 : ((0 : Int) < most) = False := eq_false h2
                  have hq1 : (0 : Int) ≤ (cw : Int) := by omega
                  go_region_held3 (fun w' => w'.cell? ⟨lo, 0, none⟩ = some (.slice aw (fromP key l').length cw) ∧ w'.cell? ⟨lo2, 0, none⟩ = some (.slice ag q.length cg) ∧ w'.cell? ⟨w.heap.size, 0, none⟩ = some (.string key) ∧ w'.cell? ⟨w.heap.size + 1, 0, none⟩ = some (.int .i64 most)) (exact SB.out _ (by repeat (first | exact BG.out | exact BF.out | exact BE.out | exact BD.out | exact Below.refl _ _ | apply Below.drew)))
                    (first
                    | (go_at_call 17; refine (K.seq key (K.below TZ.out ((by repeat (first | exact Below.refl _ _ | apply Below.drew) : Below W2.heap.size W2 _).mono hloW)) (Nat.le_trans hloW (Below.size (show Below W2.heap.size W2 _ by repeat (first | exact Below.refl _ _ | apply Below.drew)))) hk).mono ?_; rintro e wD ⟨g3, lb3, G3, rfl, eg3, hgi3, hG3, bD, -⟩; have BD : Hid (Below W2.heap.size W2 wD) := below_next (by repeat (first | exact Below.refl _ _ | apply Below.drew)) (Nat.le_refl _) bD)
                    | (go_at_call 16; refine (collect_any g3 lb3 eg3 G3 _ _ hG3 hN3 (hgi3 _ (by repeat (first | exact Below.refl _ _ | apply Below.drew)))).mono ?_; rintro e wE ⟨vE, rfl, oE, bE⟩; have BE : Hid (Below W2.heap.size W2 wE) := below_next (by repeat (first | exact BD.out | apply Below.drew)) (Nat.le_refl _) bE; have rE := Lib.hid (ReadP.own oE))
                    | (go_at_call 15; have hbf := BF; clear hbf; refine (same7_true (HR1.out.below (by repeat (first | exact BF.out | apply Below.drew))) (HR3.out.below (by repeat (first | exact BF.out | apply Below.drew)))).mono ?_; rintro e wG ⟨rfl, nG, rfl⟩; have BG : Hid (Below W2.heap.size W2 (wE.drewN (nF + nG))) := below_drew7 BF.out)
                    | (go_at_call 15; refine (same7_true (rE.out.below (by repeat (first | exact Below.refl _ _ | apply Below.drew))) (HR0.out.below (by repeat (first | exact BE.out | apply Below.drew)))).mono ?_; rintro e wF ⟨rfl, nF, rfl⟩; have BF : Hid (Below W2.heap.size W2 (wE.drewN nF)) := below_next BE.out (Nat.le_refl _) (drawnB wE nF))
                    )
                  all_goals
                    have hZ2 := (BG.out.block _ (block_lt HK2.out)).trans HK2.out
                    have hZ1 := (BG.out.block _ (block_lt HD4.out)).trans HD4.out
                    have HZ2 := Lib.hid hZ2
                    have HZ1 := Lib.hid hZ1
                    have HZB := Lib.hid (HBE.out.trans (BG.out.mono HBE.out.size))
                    go_wp2
                    refine ⟨by simp, .inl ⟨_, _, rfl, run_takeDeferred HZ2.out, ?_⟩⟩
                    have hY1 := (World.putObj_heap_other (w := wE.drewN (nF + nG)) (o := .deferred none) HDD.out).trans HZ1.out
                    refine ⟨by simp, .inl ⟨_, _, rfl, run_takeDeferred hY1, ?_⟩⟩
                    exact ⟨_, results_tmp rfl _ _ _, rfl, HZB.out.trans ((belowK_b (w := w) (Nat.le_refl _) _ D2 _ _ (by omega) HZ2.out rfl rfl).trans (belowK_b (w := w) (Nat.le_refl _) _ D _ _ (by omega) hY1 rfl rfl))⟩
    · exact absurd HTB.out (hn _)
  · have hE3 : ((buildE L : Int) != 0) = true := by simp; omega
    generalize buildE L = E at *
    generalize buildS L = S at *
    go_wp2_with fail
    refine hbd.mono ?_
    rintro e w3 ⟨rfl, b3⟩
    have B3 := Lib.hid (HB0.out.trans ((B2.out.trans (b3.mono B2.out.size)).mono HB0.out.size))
    clear b3
    go_wp2
    exact ⟨_, results_tmp rfl _ _ _, rfl, B3.out⟩
end Go.Proofs.Ytlakemcbfeogkaa

/- Layer 5: the walk of MemRuns, whatever the table. -/
import Derived.Test.YtmmamgnbonpkiaaDoorK05r
import Derived.Test.YtmmamgnbonpkiaaDoorM01t
import Derived.Test.YtmmamgnbonpkiaaDoorM02b
import Derived.Test.YtmmamgnbonpkiaaDoorM01r
import Derived.Laws.StructEq
namespace Go.Proofs.YtmmamgnbonpkiaaDoor
open Go.RowKit Go.Maps Go.WideMaps
set_option linter.unusedVariables false

theorem rfrom_at {w : World} {p : Nat} {l : List PairS} {F : Nat → Prop} (h : RTabAt w p l F) (k : ByteArray) :
    Calls Tryd.prog 18 #[.pointer (some ⟨p, 0, none⟩), .string k] w fun e w' => ∃ x, e = .returned x ∧ ReadP w' x (fromP k l) ∧ Below w.heap.size w w' := by
  obtain ⟨v, h⟩ := h
  exact rfrom_any h k
theorem sameP_refl (l : List PairS) : sameP l l = true := by simp [sameP]
theorem drew1 (w : World) : Below w.heap.size w w.drew := (Below.refl _ w).drew
theorem ReadP.in {w wr : World} {a : Option Addr} {n c : Nat} {l : List PairS} (h : ReadP w (.slice a n c) l) (t : Below w.heap.size w wr) {i : Nat} (hi : i < l.length) : ∃ b o, a = some ⟨b, o, none⟩ ∧ wr.cell? ⟨b, o + i * 3, none⟩ = some (.string l[i].key) ∧ wr.cell? ⟨b, o + i * 3 + 1, none⟩ = some (.string l[i].val) ∧ wr.cell? ⟨b, o + i * 3 + 2, none⟩ = some (.bool l[i].gone) := (h.below t).at hi

set_option maxHeartbeats 8000000 in
set_option maxRecDepth 100000 in
theorem runs5_walk {T : World → Nat → List PairS → (Nat → Prop) → Prop} (K : MemK T) (a0 : Option Addr) (c0 : Nat) (ps : List PairS) (a1 : Option Addr) (n1 c1 : Nat) (zs : List ByteArray) (w : World)
    (h0 : ReadP w (.slice a0 ps.length c0) ps) (h1 : Row1 w a1 n1 (fun i => .string (zs.getD i ByteArray.empty))) (hN : ps.length ≤ 3518437208780) (hZ : ∀ i, (zs.getD i ByteArray.empty).size ≤ 281474976710656) (hQ : Tab64 w) :
    Calls Tryd.prog 3 #[.slice a0 ps.length c0, .slice a1 n1 c1] w fun e w' => e = .returned (.bool true) ∧ Below w.heap.size w w' := by
  have m1 := h1.max
  go_enter Tryd.func3, Tryd.ntmps3
  go_wp2_with fail
  refine (awake5_any K _ hQ).mono ?_
  rintro e w1 ⟨rfl, b1⟩
  go_wp2_with fail
  refine (K.new _).mono ?_
  rintro e w2 ⟨p, rfl, h2, b2⟩
  have hst : ∃ F G, TwoT T w (w2.alloc (.cells #[.slice none 0 0] 29)) p w2.heap.size [] [] F G := by
    have g1 := b1.size
    have g2 := b2.size
    have hb : Below w2.heap.size w2 (w2.alloc (.cells #[.slice none 0 0] 29)) := (Below.refl _ w2).alloc (Nat.le_refl _) _
    refine ⟨_, fun j => j = w2.heap.size, K.kept h2 (Turn.of_below (fun _ => False) hb) (fun _ _ h => h), ⟨_, heap_alloc_new _ _, World.ownsRow_nil _ _ _ _, rfl, fun k hk => by simp [Value.ownBlock] at hk⟩, fun j hj e => by have := hj.2; omega, fun j hj => ⟨by have := hj.1; omega, by have := hj.2; simp; omega⟩, fun j hj => ⟨by omega, by simp; omega⟩, (b1.trans (b2.mono g1)).trans (hb.mono (by omega))⟩
  have HST := Lib.hid hst
  have H0 := Lib.hid h0
  have H1 := Lib.hid h1
  clear h2 b1 b2 hst h0 h1
  go_wp2
  go_loopw [24] (fun iv wr => ∃ k : Nat, k ≤ ps.length ∧ iv = .int .i64 (k : Int) ∧ Hid (∃ F G, TwoT T w wr p w2.heap.size (putsP (ps.take k)) (putsP (ps.take k)) F G)) (fun iv _ => ps.length - (intOf iv).toNat)
  case atStart => exact ⟨0, by omega, rfl, HST.out⟩
  case round =>
    clear HST
    obtain ⟨k, hk, rfl, HR⟩ := hrel
    generalize w2.heap.size = q at *
    by_cases hlt : k < ps.length
    · obtain ⟨F, G, h2⟩ := HR.out
      obtain ⟨b, off, rfl, q0, q1, q2⟩ := H0.out.in h2.below hlt
      have hz1 := putsP_len ps k
      have hz2 := (putsP_fine (ps.take k)).size
      have HN := Lib.hid (putsP_next hlt)
      generalize ps[k] = X at *
      obtain ⟨xk, xv, xg⟩ := X
      simp only at q0 q1 q2
      go_upto_region 7 with (fail)
      have hbl := (Below.refl wr.heap.size wr).alloc (Nat.le_refl _) (.cells #[.string xk, .string xv, .bool xg] 31)
      have hnew := heap_alloc_new wr (.cells #[.string xk, .string xv, .bool xg] 31)
      have TW := Lib.hid (h2.later K hbl)
      have LO : Hid (LocP (wr.alloc (.cells #[.string xk, .string xv, .bool xg] 31)) wr.heap.size F G ⟨xk, xv, xg⟩) :=
        ⟨by rw [block_cell hnew]; rfl, by rw [block_cell hnew]; rfl, by rw [block_cell hnew]; rfl, fun h => by have := (h2.f _ h).2; omega, fun h => by have := (h2.g _ h).2; omega⟩
      clear hbl hnew q0 q1 q2 h2 HR
      generalize wr.alloc (.cells #[.string xk, .string xv, .bool xg] 31) = wl at *
      generalize wr.heap.size = lb at *
      have l0 := LO.out.c0
      have l1 := LO.out.c1
      have l2 := LO.out.c2
      simp only at l0 l1 l2
      generalize hL : putsP (ps.take k) = L at *
      clear hL
      have hz3 : sizeP L ≤ 36028797018963968 := by omega
      go_cut [35] from 29 to 35 (fun bv wx => bv = .bool false ∧ Hid (∃ F G, TwoT T w wx p q (putIf ⟨xk, xv, xg⟩ L) (putIf ⟨xk, xv, xg⟩ L) F G))
      case first =>
        go_region_held3 (fun w' => w'.cell? ⟨lb, 0, none⟩ = some (.string xk) ∧ w'.cell? ⟨lb, 1, none⟩ = some (.string xv) ∧ w'.cell? ⟨lb, 2, none⟩ = some (.bool xg)) (first | exact ⟨l0b, l1b, l2b⟩ | exact ⟨l0a, l1a, l2a⟩ | exact ⟨l0, l1, l2⟩)
          (first
          | (go_at_call 9; refine (K.put ⟨xk, xv, xg⟩ (hQ.below (TW.out.later K (drew1 _)).below) (TW.out.later K (drew1 _)).tab (by omega) hz3).mono ?_; rintro e wA ⟨rfl, hA, tA⟩; have TWa := Lib.hid ((TW.out.later K (drew1 _)).onTab K hA tA); have LOa := Lib.hid ((LO.out.later (drew1 _)).onF tA); have l0a := LOa.out.c0; have l1a := LOa.out.c1; have l2a := LOa.out.c2)
          | (go_at_call 10; refine (rput_any TWa.out.ref ⟨xk, xv, xg⟩ (by omega)).mono ?_; rintro e wB ⟨rfl, hBx, tB⟩; have TWb := Lib.hid (TWa.out.onRef K hBx tB); have LOb := Lib.hid (LOa.out.onG tB); have l0b := LOb.out.c0; have l1b := LOb.out.c1; have l2b := LOb.out.c2))
        all_goals go_wp2_with fail
        all_goals go_meet
        all_goals exact ⟨rfl, _, _, TWb.out⟩
      case rest =>
        obtain ⟨rfl, HS⟩ := hcut
        have hz4 := putsP_len ps (k + 1)
        have hz5 := (putsP_fine (ps.take (k + 1))).size
        rw [HN.out] at hz4 hz5
        generalize putIf ⟨xk, xv, xg⟩ L = L' at *
        have hz6 : sizeP L' ≤ 36028797018963968 := by omega
        clear l0 l1 l2 TW LO hz1 hz2 hz3
        obtain ⟨F', G', h3⟩ := HS.out
        obtain ⟨q', hr3⟩ := h3.ref
        have H3 := Lib.hid h3
        clear HS h3 hr3
        go_wp2_with fail
        refine (K.len H3.out.tab).mono ?_
        rintro e w4 ⟨rfl, b4⟩
        have H4 := Lib.hid (H3.out.later K b4)
        clear b4
        obtain ⟨v4, hv4⟩ := H4.out.ref
        have hlen := rlen_any hv4 hz6
        clear hv4
        go_wp2_with fail
        refine hlen.mono ?_
        rintro e w5 ⟨rfl, n5, rfl⟩
        have H5 := Lib.hid (H4.out.later K (drawnB w4 n5))
        clear hlen
        generalize w4.drewN n5 = w5 at *
        by_cases hak : k < n1
        · obtain ⟨ga, oa, rfl, hca⟩ := H1.out.in H5.out.below hak
          have hzk := hZ k
          generalize zs.getD k ByteArray.empty = z at *
          have hgA := K.get z H5.out.tab
          go_wp2_with fail
          refine hgA.mono ?_
          rintro e w6 ⟨rfl, b6⟩
          have H6 := Lib.hid (H5.out.later K b6)
          have hcb : w6.cell? ⟨ga, oa + k, none⟩ = some (.string z) := (b6.cell (World.block_lt_of_cell? w5 ⟨ga, oa + k, none⟩ hca)).trans hca
          generalize hY : (getP z L').getD zeroP = Y at *
          obtain ⟨yk, yv, yg⟩ := Y
          unfold PairS.val'
          have hga : ga < w6.heap.size := World.block_lt_of_cell? w6 ⟨ga, oa + k, none⟩ hcb
          clear hgA b6 hca
          have hb7 := (Below.refl w6.heap.size w6).alloc (Nat.le_refl _) (.cells #[.string yk, .string yv, .bool yg] 31)
          have hn7 := heap_alloc_new w6 (.cells #[.string yk, .string yv, .bool yg] 31)
          have H7 := Lib.hid (H6.out.later K hb7)
          have HN7 := Lib.hid hn7
          have hcb7 : (w6.alloc (.cells #[.string yk, .string yv, .bool yg] 31)).cell? ⟨ga, oa + k, none⟩ = some (.string z) := (hb7.cell hga).trans hcb
          have hs7 : (w6.alloc (.cells #[.string yk, .string yv, .bool yg] 31)).heap.size = w6.heap.size + 1 := by simp
          obtain ⟨v7, hv7⟩ := H7.out.ref
          have hgB := rget_any hv7 z
          rw [hY] at hgB
          unfold PairS.val' at hgB
          clear hv7 hb7 hn7
          go_wp2_with fail
          refine hgB.mono ?_
          rintro e w8 ⟨rfl, b8⟩
          have H8 := Lib.hid (H7.out.later K b8)
          have HN8 : Hid (w8.heap[w6.heap.size]? = some (.cells #[.string yk, .string yv, .bool yg] 31 (0, 0))) := (b8.block _ (by omega)).trans HN7.out
          have hc8 : w8.cell? ⟨ga, oa + k, none⟩ = some (.string z) := (b8.cell (by simp only; omega)).trans hcb7
          have hg8 : ga < w8.heap.size := World.block_lt_of_cell? w8 ⟨ga, oa + k, none⟩ hc8
          generalize w6.heap.size = yb at *
          generalize w6.alloc (.cells #[.string yk, .string yv, .bool yg] 31) = w7 at *
          clear hgB b8 hcb7 hs7 hcb hga
          go_upto_region 16 with (fail)
          have hb9 := (Below.refl w8.heap.size w8).alloc (Nat.le_refl _) (.cells #[.string yk, .string yv, .bool yg] 31)
          have hn9 := heap_alloc_new w8 (.cells #[.string yk, .string yv, .bool yg] 31)
          have H9 := Lib.hid (H8.out.later K hb9)
          have hn8 := (hb9.block _ (block_lt HN8.out)).trans HN8.out
          have d0 : (w8.alloc (.cells #[.string yk, .string yv, .bool yg] 31)).cell? ⟨yb, 0, none⟩ = some (.string yk) := by rw [block_cell hn8]; rfl
          have d1 : (w8.alloc (.cells #[.string yk, .string yv, .bool yg] 31)).cell? ⟨yb, 1, none⟩ = some (.string yv) := by rw [block_cell hn8]; rfl
          have d2 : (w8.alloc (.cells #[.string yk, .string yv, .bool yg] 31)).cell? ⟨yb, 2, none⟩ = some (.bool yg) := by rw [block_cell hn8]; rfl
          have e0 : (w8.alloc (.cells #[.string yk, .string yv, .bool yg] 31)).cell? ⟨w8.heap.size, 0, none⟩ = some (.string yk) := by rw [block_cell hn9]; rfl
          have e1 : (w8.alloc (.cells #[.string yk, .string yv, .bool yg] 31)).cell? ⟨w8.heap.size, 1, none⟩ = some (.string yv) := by rw [block_cell hn9]; rfl
          have e2 : (w8.alloc (.cells #[.string yk, .string yv, .bool yg] 31)).cell? ⟨w8.heap.size, 2, none⟩ = some (.bool yg) := by rw [block_cell hn9]; rfl
          have hc9 : (w8.alloc (.cells #[.string yk, .string yv, .bool yg] 31)).cell? ⟨ga, oa + k, none⟩ = some (.string z) := (hb9.cell hg8).trans hc8
          have hyc : (w8.alloc (.cells #[.string yk, .string yv, .bool yg] 31)).heap.size = w8.heap.size + 1 := by simp
          have hfl : (fromP z L').length ≤ 3518437208880 := by unfold fromP; rw [List.length_drop]; omega
          clear hb9 hn9 hn8 hc8 hg8
          generalize w8.heap.size = yc at *
          generalize w8.alloc (.cells #[.string yk, .string yv, .bool yg] 31) = w9 at *
          generalize (getP z L').isSome = ok at *
          have SB : Hid (∀ w', Below w9.heap.size w9 w' → (w'.cell? ⟨yb, 0, none⟩ = some (.string yk) ∧ w'.cell? ⟨yb, 1, none⟩ = some (.string yv) ∧ w'.cell? ⟨yb, 2, none⟩ = some (.bool yg)) ∧ (w'.cell? ⟨yc, 0, none⟩ = some (.string yk) ∧ w'.cell? ⟨yc, 1, none⟩ = some (.string yv) ∧ w'.cell? ⟨yc, 2, none⟩ = some (.bool yg)) ∧ w'.cell? ⟨ga, oa + k, none⟩ = some (.string z)) := fun w' t => by
            have lt : ∀ {b i : Nat} {v : Value}, w9.cell? ⟨b, i, none⟩ = some v → w'.cell? ⟨b, i, none⟩ = some v := fun {b i v} h => (t.cell (World.block_lt_of_cell? w9 ⟨b, i, none⟩ h)).trans h
            exact ⟨⟨lt d0, lt d1, lt d2⟩, ⟨lt e0, lt e1, lt e2⟩, lt hc9⟩
          go_cut [100] from 76 to 100 (fun bv wx => bv = .bool false ∧ Hid (∃ F G, TwoT T w wx p q L' L' F G))
          case first =>
            go_region_held3 (fun w' => (w'.cell? ⟨yb, 0, none⟩ = some (.string yk) ∧ w'.cell? ⟨yb, 1, none⟩ = some (.string yv) ∧ w'.cell? ⟨yb, 2, none⟩ = some (.bool yg)) ∧ (w'.cell? ⟨yc, 0, none⟩ = some (.string yk) ∧ w'.cell? ⟨yc, 1, none⟩ = some (.string yv) ∧ w'.cell? ⟨yc, 2, none⟩ = some (.bool yg)) ∧ w'.cell? ⟨ga, oa + k, none⟩ = some (.string z)) (exact SB.out _ (by repeat (first | exact BD.out | exact BC.out | exact BB.out | exact BA.out | exact Below.refl _ _ | apply Below.drew)))
              (first
              | (go_at_call 17; refine (K.seq z (H9.out.later K (by repeat (first | exact BD.out | exact BC.out | exact BB.out | exact BA.out | exact Below.refl _ _ | apply Below.drew))).tab hzk).mono ?_; rintro e wA ⟨g, lb, Gs, rfl, eg, hgi, hG, bA, -⟩; have BA : Hid (Below w9.heap.size w9 wA) := below_next (by repeat (first | exact BD.out | exact BC.out | exact BB.out | exact BA.out | exact Below.refl _ _ | apply Below.drew)) (Nat.le_refl _) bA)
              | (go_at_call 16; refine (collect_any g lb eg Gs (fromP z L') _ hG hfl (hgi _ (by repeat (first | exact Below.refl _ _ | apply Below.drew)))).mono ?_; rintro e wB ⟨vB, rfl, oB, bB⟩; have BB : Hid (Below w9.heap.size w9 wB) := below_next (by repeat (first | exact BD.out | exact BC.out | exact BB.out | exact BA.out | exact Below.refl _ _ | apply Below.drew)) (Nat.le_refl _) bB; have rB := Lib.hid (ReadP.own oB))
              | (go_at_call 18; refine (rfrom_at (H9.out.later K (by repeat (first | exact BD.out | exact BC.out | exact BB.out | exact BA.out | exact Below.refl _ _ | apply Below.drew))).ref z).mono ?_; rintro e wC ⟨vC, rfl, rC, bC⟩; have BC : Hid (Below w9.heap.size w9 wC) := below_next (by repeat (first | exact BD.out | exact BC.out | exact BB.out | exact BA.out | exact Below.refl _ _ | apply Below.drew)) (Nat.le_refl _) bC; have rB2 := Lib.hid (rB.out.below bC))
              | (go_at_call 15; refine (rsame_any rB2.out rC).mono ?_; rintro e wD ⟨rfl, nD, rfl⟩; rw [sameP_refl]; have BD : Hid (Below w9.heap.size w9 (wC.drewN nD)) := below_next BC.out (Nat.le_refl _) (drawnB wC nD))
              )
            all_goals go_wp2_with fail
            all_goals go_meet
            all_goals exact ⟨rfl, _, _, H9.out.later K BD.out⟩
          case rest =>
            obtain ⟨rfl, HS2⟩ := hcut
            clear d0 d1 d2 e0 e1 e2 hc9 SB
            go_wp2
            go_roundw
            case rel => exact ⟨k + 1, by omega, by go_num, by rw [HN.out]; exact HS2.out⟩
            case measure => simp [intOf]; omega
        · go_wp2
          go_roundw
          case rel => exact ⟨k + 1, by omega, by go_num, by rw [HN.out]; exact ⟨_, _, H5.out⟩⟩
          case measure => simp [intOf]; omega
    · obtain ⟨F, G, h2⟩ := HR.out
      have hz1 := putsP_len ps k
      generalize putsP (ps.take k) = L at *
      have H2 := Lib.hid h2
      have hLl : L.length ≤ 3518437208880 := by omega
      clear h2 HR
      go_wp2_with fail
      refine (K.seq ⟨#[]⟩ H2.out.tab (by decide)).mono ?_
      rintro e wA ⟨g, lb, Gs, rfl, eg, hgi, hG, bA, -⟩
      have HA := Lib.hid (H2.out.later K bA)
      have hcol := collect_any g lb eg Gs (fromP ⟨#[]⟩ L) wA hG (by rw [from_nil]; exact hLl) (hgi _ (Below.refl _ _))
      rw [from_nil] at hcol
      clear bA hgi
      go_wp2_with fail
      refine hcol.mono ?_
      rintro e wB ⟨vB, rfl, oB, bB⟩
      have HB := Lib.hid (HA.out.later K bB)
      have rB := Lib.hid (ReadP.own oB)
      have hfr := rfrom_at HB.out.ref ⟨#[]⟩
      rw [from_nil] at hfr
      clear bB oB hcol
      go_wp2_with fail
      refine hfr.mono ?_
      rintro e wC ⟨vC, rfl, rC, bC⟩
      have HC := Lib.hid (HB.out.later K bC)
      have hsm := rsame_any (rB.out.below bC) rC
      rw [sameP_refl] at hsm
      clear bC rC hfr
      go_wp2_with fail
      refine hsm.mono ?_
      rintro e wD ⟨rfl, nD, rfl⟩
      have HD := Lib.hid (HC.out.later K (drawnB wC nD)).below
      clear hsm
      go_wp2
      go_ret
      exact ⟨rfl, HD.out⟩
end Go.Proofs.YtmmamgnbonpkiaaDoor

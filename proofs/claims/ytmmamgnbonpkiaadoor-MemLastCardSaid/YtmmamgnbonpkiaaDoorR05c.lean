/- Layer 5: contracts of the reference's From, Put. -/
import Derived.Test.YtmmamgnbonpkiaaDoorR05b
import Derived.IntWalk
namespace Go.Proofs.YtmmamgnbonpkiaaDoor
open Go.RowKit Go.Maps Go.WideMaps
set_option linter.unusedVariables false

/-- .. and the blocks that are new. -/
def Grown (F : Nat → Prop) (w w' : World) (k : Nat) : Prop := F k ∨ (w.heap.size ≤ k ∧ k < w'.heap.size)
theorem slPair : Tryd.prog.underlying 22 = some (.slice (Tryd.prog.elem 22)) := by kernel_rfl
theorem szPair (w : World) : (sizeOf (Tryd.prog.elem 22)).run Tryd.prog w = .ok 3 w := by kernel_rfl
theorem drawnB (w : World) (n : Nat) : Below w.heap.size w (w.drewN n) := below_drewN (Below.refl _ w) n

set_option maxHeartbeats 1000000 in
set_option maxRecDepth 100000 in
theorem rfrom_any {w : World} {p : Nat} {v : Value} {l : List PairS} {F : Nat → Prop} (h : RTabIn w p v l F) (k : ByteArray) :
    Calls Tryd.prog 18 #[.pointer (some ⟨p, 0, none⟩), .string k] w fun e w' => ∃ x, e = .returned x ∧ ReadP w' x (fromP k l) ∧ Below w.heap.size w w' := by
  have c0 := h.c0
  have hat := rat_any h k
  have hle := placeP_le k l
  have hmax := h.max
  have hD : ∃ x, (∀ wx, (Instr.slice 22 v (some (.int .i64 (placeP k l : Nat))) none none).run Tryd.prog wx = .ok x wx) ∧ ∀ wx, Turn NoF w wx → ReadP wx x (fromP k l) := by
    have hr := h.row
    rcases h.row.2 with ⟨rfl, h0⟩ | ⟨g, cap, cur, rfl, _, hg, hlc, hcm, _⟩
    · obtain rfl : l = [] := List.eq_nil_of_length_eq_zero h0
      refine ⟨.slice none 0 0, fun wx => ?_, fun wx t => ⟨by simp [fromP], none, 0, rfl, .inl rfl⟩⟩
      have := run_slice_l (P := Tryd.prog) (w := wx) 22 none 0 0 slPair .i64 (placeP k [] : Nat) (by simp [placeP]) (by simp [placeP])
      rw [szPair] at this
      exact this
    · refine ⟨.slice (if cap = placeP k l then some ⟨g, 0, none⟩ else some ⟨g, placeP k l * 3, none⟩) (l.length - placeP k l) (cap - placeP k l), fun wx => ?_, fun wx t => ⟨by unfold fromP; rw [List.length_drop]; omega, ?_⟩⟩
      · have := run_slice_l (P := Tryd.prog) (w := wx) 22 (some ⟨g, 0, none⟩) l.length cap slPair .i64 (placeP k l : Nat) (by omega) (by omega)
        rw [szPair] at this
        rw [this]
        show Result.ok (sliced (some ⟨g, 0, none⟩) (((placeP k l : Nat) : Int).toNat) l.length cap 3) wx = _
        have e : (if placeP k l * 3 = 0 then (⟨g, 0, none⟩ : Addr) else ⟨g, placeP k l * 3, none⟩) = ⟨g, placeP k l * 3, none⟩ := by
          split
          · rename_i h; rw [h]
          · rfl
        unfold sliced
        simp [Addr.add, e]
      · have hlen : (fromP k l).length = l.length - placeP k l := by simp [fromP]
        by_cases hc : cap = placeP k l
        · rw [if_pos hc, ← hlen]
          exact ⟨_, _, rfl, .inl (List.eq_nil_of_length_eq_zero (by omega))⟩
        · rw [if_neg hc, ← hlen]
          refine ⟨_, _, rfl, .inr ⟨_, _, rfl, fun i hi => ?_⟩⟩
          have hi2 : placeP k l + i < l.length := by omega
          obtain ⟨g', cap', hv, _, _, q0, q1, q2⟩ := row_pair hr hi2
          injection hv with hv
          injection hv with hv
          injection hv with hv
          subst hv
          have e : (fromP k l)[i] = l[placeP k l + i] := by simp [fromP]
          rw [e, show placeP k l * 3 + i * 3 = (placeP k l + i) * 3 by omega]
          have tk : ∀ {o : Nat} {u : Value}, w.cell? ⟨g, o, none⟩ = some u → wx.cell? ⟨g, o, none⟩ = some u := fun {o u} hc => (World.cell?_of_block (w := w) (t.block g (World.block_lt_of_cell? w ⟨g, o, none⟩ hc) (fun h => h))).trans hc
          exact ⟨tk q0, tk q1, tk q2⟩
  obtain ⟨x, e2, s2⟩ := hD
  have S2 := Lib.hid s2
  clear h s2
  generalize placeP k l = i at *
  go_enter Tryd.func18, Tryd.ntmps18
  go_wp2_with fail
  refine hat.mono ?_
  rintro r w1 ⟨rfl, n, rfl⟩
  go_wp2
  go_ret
  exact ⟨x, rfl, S2.out _ (Turn.of_below _ (drawnB w n)), drawnB w n⟩

theorem turnN {w w' : World} (h : Below w.heap.size w w') : Turn NoF w w' := Turn.of_below _ h
/-- The reference's pairs anew, in a row of their own. -/
theorem RTabIn.reRow {w w1 : World} {p : Nat} {v : Value} {l : List PairS} {F : Nat → Prop} (h : RTabIn w p v l F) {v' : Value} {l' : List PairS} (t : Turn NoF w w1) (ho : w1.ownsRow 0 31 3 v' l'.length (rowP l')) (hn : ∀ k, v'.ownBlock = some k → w.heap.size ≤ k) :
    RTabIn (w1.setCell ⟨p, 0, none⟩ v') p v' l' (Grown F w (w1.setCell ⟨p, 0, none⟩ v')) ∧ Turn F w (w1.setCell ⟨p, 0, none⟩ v') := by
  have hh1 : w1.heap[p]? = some (.cells #[v] 29 (0, 0)) := t.keeps h.head (fun h => h)
  have t2 : Turn (fun k => k = p) w1 (w1.setCell ⟨p, 0, none⟩ v') := (Turn.refl (fun k => k = p) w1).setCell (p := ⟨p, 0, none⟩) (.inl rfl) v'
  have hp := h.lt
  refine ⟨⟨block_set hh1 0 v', t2.row ho (fun k hk e => by have := hn k hk; omega), .inl h.fp, fun k hk => .inr ⟨hn k hk, by have := (ho.lt k hk).2; simpa [World.setCell] using this⟩⟩, ?_⟩
  exact (t.mono (fun i hi => hi.elim)).trans (t2.mono (fun i hi => by subst hi; exact .inl h.fp)) (fun i hi => .inl hi)

set_option maxHeartbeats 8000000 in
set_option maxRecDepth 100000 in
theorem rput_ok {w : World} {p : Nat} {v : Value} {l : List PairS} {F : Nat → Prop} (h : RTabIn w p v l F) (x : PairS) (hx : wrongP x = 0) (hz : l.length < 3518437208880) :
    Calls Tryd.prog 10 #[.pointer (some ⟨p, 0, none⟩), x.val'] w fun e w' => e = .returned (.int .i64 0) ∧ RTabAt w' p (putP x l) (Grown F w w') ∧ Turn F w w' := by
  obtain ⟨i0, hi, hz0, hz1, hz2⟩ := info_parts infoPair
  obtain ⟨k, vl, gn⟩ := x
  have hwr := rwrong_any ⟨k, vl, gn⟩ (w.alloc (.cells #[.string k, .string vl, .bool gn] 31))
  rw [hx] at hwr
  have H := Lib.hid h
  have HW := Lib.hid hwr
  clear h hwr hx
  show Calls Tryd.prog 10 #[.pointer (some ⟨p, 0, none⟩), .agg #[.string k, .string vl, .bool gn]] w _
  go_enter Tryd.func10, Tryd.ntmps10
  go_wp2_with fail
  refine HW.out.mono ?_
  rintro r w1 ⟨rfl, b1⟩
  have hs1 : (w.alloc (.cells #[.string k, .string vl, .bool gn] 31)).heap.size = w.heap.size + 1 := by simp
  have hbx : w1.heap[w.heap.size]? = some (.cells #[.string k, .string vl, .bool gn] 31 (0, 0)) := (b1.block _ (by omega)).trans (heap_alloc_new _ _)
  have T1 := Lib.hid (Turn.of_below NoF (((Below.refl _ w).alloc (Nat.le_refl _) _).trans (b1.mono (by omega))))
  have h1 : RTabIn w1 p v l F := H.out.kept T1.out (fun _ _ h => h)
  have x0 : w1.cell? ⟨w.heap.size, 0, none⟩ = some (.string k) := by rw [World.cell?, hbx]; rfl
  have x1 : w1.cell? ⟨w.heap.size, 1, none⟩ = some (.string vl) := by rw [World.cell?, hbx]; rfl
  have x2 : w1.cell? ⟨w.heap.size, 2, none⟩ = some (.bool gn) := by rw [World.cell?, hbx]; rfl
  have HB := Lib.hid hbx
  have H1 := Lib.hid h1
  clear b1 h1 hbx
  go_wp2_with fail
  refine (rat_any H1.out k).mono ?_
  rintro r w2 ⟨rfl, nd, rfl⟩
  have hpl := placeP_le k l
  have h2 : RTabIn (w1.drewN nd) p v l F := H1.out.below (drawnB w1 nd)
  have T2 := Lib.hid ((T1.out).trans (turnN (drawnB w1 nd)) (fun i hi => hi.elim))
  have y0 : (w1.drewN nd).cell? ⟨w.heap.size, 0, none⟩ = some (.string k) := x0
  have y1 : (w1.drewN nd).cell? ⟨w.heap.size, 1, none⟩ = some (.string vl) := x1
  have y2 : (w1.drewN nd).cell? ⟨w.heap.size, 2, none⟩ = some (.bool gn) := x2
  have HB2 : Hid ((w1.drewN nd).heap[w.heap.size]? = some (.cells #[.string k, .string vl, .bool gn] 31 (0, 0))) := HB.out
  generalize hw2 : w1.drewN nd = w2 at *
  clear x0 x1 x2 hw2
  obtain ⟨s1v, e1, s1⟩ := src_take slPair szPair h2.row (rowP_one _) hpl
  rw [rowP_take] at s1
  have S1 := Lib.hid s1
  have H2 := Lib.hid h2
  have c0 := h2.c0
  have f0 := h2.free 0
  have hjl : placeP k l + (if thereP k l then 1 else 0) ≤ l.length := by
    by_cases ht : thereP k l = true
    · obtain ⟨hlt, _⟩ := thereP_lt ht
      rw [if_pos ht]; omega
    · rw [if_neg ht]; omega
  obtain ⟨s2v, e2, s2⟩ := src_drop slPair szPair h2.row (rowP_one _) hjl
  rw [rowP_drop] at s2
  have S2 := Lib.hid s2
  have HP : Hid (putP ⟨k, vl, gn⟩ l = l.take (placeP k l) ++ ⟨k, vl, gn⟩ :: l.drop (placeP k l + (if thereP k l then 1 else 0))) := rfl
  have hnil := World.ownsRow_nil w2 0 31 3
  clear h2 s1 s2
  generalize hT : thereP k l = tt at *
  generalize placeP k l = i at *
  clear hT
  cases tt
  · have e2' : ∀ wx, (Instr.slice 22 v (some (.int .i64 (i : Int))) none none).run Tryd.prog wx = .ok s2v wx := e2
    have E2 := Lib.hid e2'
    clear e2 e2'
    go_wp2_with (at_builtin; refine wpList_app _ rfl _ (.tmp 26) rfl Tryd.underlying22 hi hz0 hz1 hz2 rfl (by decide) rfl hnil rfl (S1.out w2 (Turn.refl _ _)) ?c1_0 ?c2_0 ?_)
    case c1_0 => omega
    case c2_0 => unfold maxLen; omega
    intro v3 w3 o3 g3 l3
    have t3 : Turn NoF w2 w3 := (Turn.refl NoF w2).grown g3 (fun k hk => by simp [Value.ownBlock] at hk)
    have n3 : ∀ j, v3.ownBlock = some j → w2.heap.size ≤ j := fun j hj => by
      rcases l3 j hj with h | h
      · simp [Value.ownBlock] at h
      · exact h
    have hw2 : w.heap.size < w2.heap.size := block_lt HB2.out
    have hb3 : w3.heap[w.heap.size]? = some (.cells #[.string k, .string vl, .bool gn] 31 (0, 0)) := t3.keeps HB2.out (fun h => h)
    have z0 : w3.cell? ⟨w.heap.size, 0, none⟩ = some (.string k) := by rw [World.cell?, hb3]; rfl
    have z1 : w3.cell? ⟨w.heap.size, 1, none⟩ = some (.string vl) := by rw [World.cell?, hb3]; rfl
    have z2 : w3.cell? ⟨w.heap.size, 2, none⟩ = some (.bool gn) := by rw [World.cell?, hb3]; rfl
    have N3 := Lib.hid n3
    have T3 := Lib.hid t3
    clear hnil g3 l3 n3 t3 c0 f0 y0 y1 y2 hb3
    have hsrc := src_new (sz := 3) w3 #[.string k, .string vl, .bool gn] 31 rfl (by simp [Value.oneCell'])
    have o3' := o3.alloc (.cells #[.string k, .string vl, .bool gn] 31)
    go_wp2_with (at_builtin; refine wpList_app _ rfl (.tmp 28) (.tmp 30) rfl Tryd.underlying22 hi hz0 hz1 hz2 rfl (by decide) rfl o3' rfl hsrc ?d1_0 ?d2_0 ?_)
    case d1_0 => omega
    case d2_0 => unfold maxLen; omega
    intro v4 w4 o4 g4 l4
    have t4 : Turn NoF w2 w4 := (T3.out.alloc _).grown g4 (fun j hj => .inr (N3.out j hj))
    have n4 : ∀ j, v4.ownBlock = some j → w2.heap.size ≤ j := fun j hj => by
      rcases l4 j hj with h | h
      · exact N3.out j h
      · have := T3.out.size
        have h' : w3.heap.size + 1 ≤ j := by simpa using h
        omega
    have c4 : w4.cell? ⟨p, 0, none⟩ = some v := by rw [World.cell?_of_block (w := w2) (t4.block p H2.out.lt (fun h => h))]; exact H2.out.c0
    have f4 : w4.frozen? ⟨p, 0, none⟩ = false := by rw [World.frozen?_of_block (w := w2) (t4.block p H2.out.lt (fun h => h))]; exact H2.out.free 0
    have N4 := Lib.hid n4
    have T4 := Lib.hid t4
    have hs4 := S2.out w4 t4
    have e2' := E2.out
    clear hsrc o3 o3' g4 l4 n4 t4 z0 z1 z2
    go_wp2_with (at_builtin; refine wpList_app _ rfl (.tmp 36) (.tmp 42) rfl Tryd.underlying22 hi hz0 hz1 hz2 rfl (by decide) rfl o4 rfl hs4 ?e1_0 ?e2_0 ?_)
    case e1_0 => omega
    case e2_0 => unfold maxLen; omega
    intro v5 w5 o5 g5 l5
    have t5 : Turn NoF w2 w5 := T4.out.grown g5 (fun j hj => .inr (N4.out j hj))
    have n5 : ∀ j, v5.ownBlock = some j → w2.heap.size ≤ j := fun j hj => by
      rcases l5 j hj with h | h
      · exact N4.out j h
      · have := T4.out.size; omega
    have c5 : w5.cell? ⟨p, 0, none⟩ = some v := by rw [World.cell?_of_block (w := w2) (t5.block p H2.out.lt (fun h => h))]; exact H2.out.c0
    have f5 : w5.frozen? ⟨p, 0, none⟩ = false := by rw [World.frozen?_of_block (w := w2) (t5.block p H2.out.lt (fun h => h))]; exact H2.out.free 0
    have hln : i + 1 + (l.length - (i + 0)) = (putP ⟨k, vl, gn⟩ l).length := by rw [HP.out]; simp; omega
    have hcl : rowP (l.take i) ++ [.string k, .string vl, .bool gn] ++ rowP (l.drop (i + 0)) = rowP (putP ⟨k, vl, gn⟩ l) := by
      rw [HP.out, rowP_append, rowP_cons, List.append_assoc]
      simp
    have o5' : w5.ownsRow 0 31 3 v5 (putP ⟨k, vl, gn⟩ l).length (rowP (putP ⟨k, vl, gn⟩ l)) := by
      rw [← hln, ← hcl]; simpa using o5
    have HRE := Lib.hid (H2.out.reRow t5 o5' n5)
    obtain ⟨a5, k5, rfl⟩ := row_slice o5
    clear hln hcl o5 o5' g5 l5 n5 t5 o4 hs4 c4 f4 hi
    go_wp2
    go_ret
    have g1 := HRE.out.2.size
    have g2 := T2.out.size
    refine ⟨rfl, RTabAt.mono ⟨_, HRE.out.1⟩ (fun j hj => ?_), (T2.out.mono (fun i hi => hi.elim)).trans HRE.out.2 (fun i hi => .inl hi)⟩
    rcases hj with hj | hj
    · exact .inl hj
    · exact .inr ⟨by omega, hj.2⟩
  · have e2' : ∀ wx, (Instr.slice 22 v (some (.int .i64 ((i : Int) + 1))) none none).run Tryd.prog wx = .ok s2v wx := e2
    have hwk : IntKind.i64.wrap ((i : Int) + 1) = (i : Int) + 1 := IntWalk.i64_in _ (by omega)
    have E2 := Lib.hid e2'
    clear e2 e2'
    go_wp2_with (at_builtin; refine wpList_app _ rfl _ (.tmp 26) rfl Tryd.underlying22 hi hz0 hz1 hz2 rfl (by decide) rfl hnil rfl (S1.out w2 (Turn.refl _ _)) ?c1_1 ?c2_1 ?_)
    case c1_1 => omega
    case c2_1 => unfold maxLen; omega
    intro v3 w3 o3 g3 l3
    have t3 : Turn NoF w2 w3 := (Turn.refl NoF w2).grown g3 (fun k hk => by simp [Value.ownBlock] at hk)
    have n3 : ∀ j, v3.ownBlock = some j → w2.heap.size ≤ j := fun j hj => by
      rcases l3 j hj with h | h
      · simp [Value.ownBlock] at h
      · exact h
    have hw2 : w.heap.size < w2.heap.size := block_lt HB2.out
    have hb3 : w3.heap[w.heap.size]? = some (.cells #[.string k, .string vl, .bool gn] 31 (0, 0)) := t3.keeps HB2.out (fun h => h)
    have z0 : w3.cell? ⟨w.heap.size, 0, none⟩ = some (.string k) := by rw [World.cell?, hb3]; rfl
    have z1 : w3.cell? ⟨w.heap.size, 1, none⟩ = some (.string vl) := by rw [World.cell?, hb3]; rfl
    have z2 : w3.cell? ⟨w.heap.size, 2, none⟩ = some (.bool gn) := by rw [World.cell?, hb3]; rfl
    have N3 := Lib.hid n3
    have T3 := Lib.hid t3
    clear hnil g3 l3 n3 t3 c0 f0 y0 y1 y2 hb3
    have hsrc := src_new (sz := 3) w3 #[.string k, .string vl, .bool gn] 31 rfl (by simp [Value.oneCell'])
    have o3' := o3.alloc (.cells #[.string k, .string vl, .bool gn] 31)
    go_wp2_with (at_builtin; refine wpList_app _ rfl (.tmp 28) (.tmp 30) rfl Tryd.underlying22 hi hz0 hz1 hz2 rfl (by decide) rfl o3' rfl hsrc ?d1_1 ?d2_1 ?_)
    case d1_1 => omega
    case d2_1 => unfold maxLen; omega
    intro v4 w4 o4 g4 l4
    have t4 : Turn NoF w2 w4 := (T3.out.alloc _).grown g4 (fun j hj => .inr (N3.out j hj))
    have n4 : ∀ j, v4.ownBlock = some j → w2.heap.size ≤ j := fun j hj => by
      rcases l4 j hj with h | h
      · exact N3.out j h
      · have := T3.out.size
        have h' : w3.heap.size + 1 ≤ j := by simpa using h
        omega
    have c4 : w4.cell? ⟨p, 0, none⟩ = some v := by rw [World.cell?_of_block (w := w2) (t4.block p H2.out.lt (fun h => h))]; exact H2.out.c0
    have f4 : w4.frozen? ⟨p, 0, none⟩ = false := by rw [World.frozen?_of_block (w := w2) (t4.block p H2.out.lt (fun h => h))]; exact H2.out.free 0
    have N4 := Lib.hid n4
    have T4 := Lib.hid t4
    have hs4 := S2.out w4 t4
    have e2' := E2.out
    clear hsrc o3 o3' g4 l4 n4 t4 z0 z1 z2
    go_wp2_with (at_builtin; refine wpList_app _ rfl (.tmp 36) (.tmp 42) rfl Tryd.underlying22 hi hz0 hz1 hz2 rfl (by decide) rfl o4 rfl hs4 ?e1_1 ?e2_1 ?_)
    case e1_1 => omega
    case e2_1 => unfold maxLen; omega
    intro v5 w5 o5 g5 l5
    have t5 : Turn NoF w2 w5 := T4.out.grown g5 (fun j hj => .inr (N4.out j hj))
    have n5 : ∀ j, v5.ownBlock = some j → w2.heap.size ≤ j := fun j hj => by
      rcases l5 j hj with h | h
      · exact N4.out j h
      · have := T4.out.size; omega
    have c5 : w5.cell? ⟨p, 0, none⟩ = some v := by rw [World.cell?_of_block (w := w2) (t5.block p H2.out.lt (fun h => h))]; exact H2.out.c0
    have f5 : w5.frozen? ⟨p, 0, none⟩ = false := by rw [World.frozen?_of_block (w := w2) (t5.block p H2.out.lt (fun h => h))]; exact H2.out.free 0
    have hln : i + 1 + (l.length - (i + 1)) = (putP ⟨k, vl, gn⟩ l).length := by rw [HP.out]; simp; omega
    have hcl : rowP (l.take i) ++ [.string k, .string vl, .bool gn] ++ rowP (l.drop (i + 1)) = rowP (putP ⟨k, vl, gn⟩ l) := by
      rw [HP.out, rowP_append, rowP_cons, List.append_assoc]
      simp
    have o5' : w5.ownsRow 0 31 3 v5 (putP ⟨k, vl, gn⟩ l).length (rowP (putP ⟨k, vl, gn⟩ l)) := by
      rw [← hln, ← hcl]; simpa using o5
    have HRE := Lib.hid (H2.out.reRow t5 o5' n5)
    obtain ⟨a5, k5, rfl⟩ := row_slice o5
    clear hln hcl o5 o5' g5 l5 n5 t5 o4 hs4 c4 f4 hi
    go_wp2
    go_ret
    have g1 := HRE.out.2.size
    have g2 := T2.out.size
    refine ⟨rfl, RTabAt.mono ⟨_, HRE.out.1⟩ (fun j hj => ?_), (T2.out.mono (fun i hi => hi.elim)).trans HRE.out.2 (fun i hi => .inl hi)⟩
    rcases hj with hj | hj
    · exact .inl hj
    · exact .inr ⟨by omega, hj.2⟩
end Go.Proofs.YtmmamgnbonpkiaaDoor

/- Layer 5: contracts of before, first. -/
import Derived.Test.YtmmamgnbonpkiaaDoorW05b
import Derived.Deep.LoopGhost
import Derived.Deep.WholeRow
namespace Go.Proofs.YtmmamgnbonpkiaaDoor
open Go.RowKit Go.Maps Go.WideMaps
set_option linter.unusedVariables false

def nil12 : Array Value := #[.pointer none, .pointer none, .pointer none, .pointer none, .pointer none, .pointer none, .pointer none, .pointer none, .pointer none, .pointer none, .pointer none, .pointer none]
/-- Twelve pointers. -/
def befV (B : Nat → Nat) : Value := .agg #[.pointer (some ⟨B 0, 0, none⟩), .pointer (some ⟨B 1, 0, none⟩), .pointer (some ⟨B 2, 0, none⟩), .pointer (some ⟨B 3, 0, none⟩), .pointer (some ⟨B 4, 0, none⟩), .pointer (some ⟨B 5, 0, none⟩),
  .pointer (some ⟨B 6, 0, none⟩), .pointer (some ⟨B 7, 0, none⟩), .pointer (some ⟨B 8, 0, none⟩), .pointer (some ⟨B 9, 0, none⟩), .pointer (some ⟨B 10, 0, none⟩), .pointer (some ⟨B 11, 0, none⟩)]
/-- The last nodes of each level whose keys are less: those from level m on. -/
def BefC (B : Nat → Nat) (m : Nat) (c : Array Value) : Prop := c.size = 12 ∧ ∀ j, m ≤ j → j < 12 → c[j]? = some (.pointer (some ⟨B j, 0, none⟩))
/-- What twelve cells hold. -/
def Twelve (w : World) (b : Nat) (B : Nat → Nat) : Prop := ∀ j, j < 12 → w.cell? ⟨b, j, none⟩ = some (.pointer (some ⟨B j, 0, none⟩))

/-- The twelve stored one by one. -/
def set12 (w : World) (b : Nat) (B : Nat → Nat) : World :=
  ((((((((((((w.setCell ⟨b, 0, none⟩ (.pointer (some ⟨B 0, 0, none⟩))).setCell ⟨b, 1, none⟩ (.pointer (some ⟨B 1, 0, none⟩))).setCell ⟨b, 2, none⟩ (.pointer (some ⟨B 2, 0, none⟩))).setCell ⟨b, 3, none⟩ (.pointer (some ⟨B 3, 0, none⟩))).setCell
    ⟨b, 4, none⟩ (.pointer (some ⟨B 4, 0, none⟩))).setCell ⟨b, 5, none⟩ (.pointer (some ⟨B 5, 0, none⟩))).setCell ⟨b, 6, none⟩ (.pointer (some ⟨B 6, 0, none⟩))).setCell ⟨b, 7, none⟩ (.pointer (some ⟨B 7, 0, none⟩))).setCell
    ⟨b, 8, none⟩ (.pointer (some ⟨B 8, 0, none⟩))).setCell ⟨b, 9, none⟩ (.pointer (some ⟨B 9, 0, none⟩))).setCell ⟨b, 10, none⟩ (.pointer (some ⟨B 10, 0, none⟩))).setCell ⟨b, 11, none⟩ (.pointer (some ⟨B 11, 0, none⟩)))
def arr12 (B : Nat → Nat) : Array Value := #[.pointer (some ⟨B 0, 0, none⟩), .pointer (some ⟨B 1, 0, none⟩), .pointer (some ⟨B 2, 0, none⟩), .pointer (some ⟨B 3, 0, none⟩), .pointer (some ⟨B 4, 0, none⟩), .pointer (some ⟨B 5, 0, none⟩),
  .pointer (some ⟨B 6, 0, none⟩), .pointer (some ⟨B 7, 0, none⟩), .pointer (some ⟨B 8, 0, none⟩), .pointer (some ⟨B 9, 0, none⟩), .pointer (some ⟨B 10, 0, none⟩), .pointer (some ⟨B 11, 0, none⟩)]
theorem stepSet {w : World} {b k : Nat} {c : Array Value} {t : TypeId} (h : w.heap[b]? = some (.cells c t (0, 0))) (hc : c.size = 12) (hk : k < 12) (B : Nat → Nat) (hat : ∀ i, i < k → c[i]? = some (.pointer (some ⟨B i, 0, none⟩))) :
    ∃ c', (w.setCell ⟨b, k, none⟩ (.pointer (some ⟨B k, 0, none⟩))).heap[b]? = some (.cells c' t (0, 0)) ∧ c'.size = 12 ∧ ∀ i, i < k + 1 → c'[i]? = some (.pointer (some ⟨B i, 0, none⟩)) := by
  refine ⟨_, block_set h k _, by simp [hc], fun i hi => ?_⟩
  by_cases e : k = i
  · subst e
    rw [Array.getElem?_setIfInBounds_self_of_lt (by omega)]
  · rw [Array.getElem?_setIfInBounds_ne e]; exact hat i (by omega)
theorem arr12_of {c : Array Value} (hc : c.size = 12) {B : Nat → Nat} (hat : ∀ i, i < 12 → c[i]? = some (.pointer (some ⟨B i, 0, none⟩))) : c = arr12 B := by
  apply Array.ext_getElem?
  intro i
  by_cases hi : i < 12
  · rw [hat i hi]
    match i, hi with
    | 0, _ | 1, _ | 2, _ | 3, _ | 4, _ | 5, _ | 6, _ | 7, _ | 8, _ | 9, _ | 10, _ | 11, _ => rfl
  · rw [Array.getElem?_eq_none (by omega), Array.getElem?_eq_none (by show 12 ≤ i; omega)]
theorem set12_block {w : World} {b : Nat} {c : Array Value} {t : TypeId} (h : w.heap[b]? = some (.cells c t (0, 0))) (hc : c.size = 12) (B : Nat → Nat) : (set12 w b B).heap[b]? = some (.cells (arr12 B) t (0, 0)) := by
  obtain ⟨c0, h0, s0, a0⟩ := stepSet h hc (by decide : 0 < 12) B (fun i hi => absurd hi (by omega))
  obtain ⟨c1, h1, s1, a1⟩ := stepSet h0 s0 (by decide : 1 < 12) B a0
  obtain ⟨c2, h2, s2, a2⟩ := stepSet h1 s1 (by decide : 2 < 12) B a1
  obtain ⟨c3, h3, s3, a3⟩ := stepSet h2 s2 (by decide : 3 < 12) B a2
  obtain ⟨c4, h4, s4, a4⟩ := stepSet h3 s3 (by decide : 4 < 12) B a3
  obtain ⟨c5, h5, s5, a5⟩ := stepSet h4 s4 (by decide : 5 < 12) B a4
  obtain ⟨c6, h6, s6, a6⟩ := stepSet h5 s5 (by decide : 6 < 12) B a5
  obtain ⟨c7, h7, s7, a7⟩ := stepSet h6 s6 (by decide : 7 < 12) B a6
  obtain ⟨c8, h8, s8, a8⟩ := stepSet h7 s7 (by decide : 8 < 12) B a7
  obtain ⟨c9, h9, s9, a9⟩ := stepSet h8 s8 (by decide : 9 < 12) B a8
  obtain ⟨c10, h10, s10, a10⟩ := stepSet h9 s9 (by decide : 10 < 12) B a9
  obtain ⟨c11, h11, s11, a11⟩ := stepSet h10 s10 (by decide : 11 < 12) B a10
  rw [← arr12_of s11 a11]
  exact h11
theorem set12_below {w : World} {b n : Nat} (hb : n ≤ b) (B : Nat → Nat) : Below n w (set12 w b B) := by
  unfold set12
  exact (((((((((((((Below.refl n w).setCell (p := ⟨b, 0, none⟩) hb _).setCell (p := ⟨b, 1, none⟩) hb _).setCell (p := ⟨b, 2, none⟩) hb _).setCell (p := ⟨b, 3, none⟩) hb _).setCell (p := ⟨b, 4, none⟩) hb _).setCell (p := ⟨b, 5, none⟩) hb _).setCell (p := ⟨b, 6, none⟩) hb _).setCell
    (p := ⟨b, 7, none⟩) hb _).setCell (p := ⟨b, 8, none⟩) hb _).setCell (p := ⟨b, 9, none⟩) hb _).setCell (p := ⟨b, 10, none⟩) hb _).setCell (p := ⟨b, 11, none⟩) hb _)
theorem info12 : (Tryd.prog.info? 52).map (·.size) = some 12 := by kernel_rfl
theorem load12 {w : World} {b : Nat} {t : TypeId} (B : Nat → Nat) (h : w.heap[b]? = some (.cells (arr12 B) t (0, 0))) : (loadVar 52 ⟨b, 0, none⟩).run Tryd.prog w = .ok (befV B) w :=
  run_loadVar_row w b t 52 (arr12 B) (0, 0) _ h Tryd.underlying52 rfl info12

set_option maxHeartbeats 4000000 in
set_option maxRecDepth 100000 in
theorem before_any {w : World} {p : Nat} {l : List PairS} {F : Nat → Prop} {N : List NodeS} (h : TabP w p l F N) (k : ByteArray) (B : Nat → Nat) (hB : ∀ j, j < 12 → B j = blkAt p N (lastOn j N (placeP k l))) :
    Calls Tryd.prog 20 #[.pointer (some ⟨p, 0, none⟩), .string k] w fun e w' => e = .returned (befV B) ∧ Below w.heap.size w w' := by
  have hle := placeP_le k l
  rw [← h.len] at hle
  have HH := Lib.hid h
  have HB := Lib.hid hB
  clear h hB
  generalize hpl : placeP k l = pl at *
  have HP := Lib.hid hpl
  clear hpl
  go_enter Tryd.func20, Tryd.ntmps20
  go_wp2
  go_loopg [6, 7] 12 (fun m nv iv wr => m ≤ 12 ∧ iv = .int .i64 ((m : Int) - 1) ∧ ∃ q c, nv = .pointer (some ⟨blkAt p N q, 0, none⟩) ∧ q ≤ pl ∧ onB N q m ∧ BefC B m c ∧ Below w.heap.size w wr ∧
    wr.heap[w.heap.size + 1]? = some (.cells c 52 (0, 0)) ∧ ∃ c0, wr.heap[w.heap.size]? = some (.cells c0 52 (0, 0)) ∧ c0.size = 12)
  case atStart =>
    have s1 := heap_alloc_new w (.cells nil12 52)
    have s2 := heap_alloc_new (w.alloc (.cells nil12 52)) (.cells nil12 52)
    rw [World.size_alloc] at s2
    have s3 := (Below.heap_alloc (w.alloc (.cells nil12 52)) (.cells nil12 52) w.heap.size (by simp)).trans s1
    exact ⟨by omega, rfl, 0, nil12, rfl, Nat.zero_le _, .inl rfl, ⟨rfl, fun j a b => by omega⟩, ((Below.refl _ w).alloc (Nat.le_refl _) _).alloc (by simp) _, s2, nil12, s3, rfl⟩
  case round =>
    obtain ⟨hm, rfl, q, c, rfl, hq, ho, hc, hb, hbc, c0, hb0, hc0⟩ := hrel
    cases gk with
    | zero =>
      have hT : Twelve wr (w.heap.size + 1) B := fun j hj => by rw [block_cell hbc]; exact hc.2 j (by omega) hj
      have hF : ∀ i, wr.frozen? ⟨w.heap.size, i, none⟩ = false := block_free hb0
      have hE : ∀ i, i < 12 → ∃ v, wr.cell? ⟨w.heap.size, i, none⟩ = some v := fun i hi => by rw [block_cell hb0]; exact ⟨c0[i]'(by omega), by simp⟩
      obtain ⟨e0, f0⟩ := hE 0 (by omega)
      obtain ⟨e1, f1⟩ := hE 1 (by omega)
      obtain ⟨e2, f2⟩ := hE 2 (by omega)
      obtain ⟨e3, f3⟩ := hE 3 (by omega)
      obtain ⟨e4, f4⟩ := hE 4 (by omega)
      obtain ⟨e5, f5⟩ := hE 5 (by omega)
      obtain ⟨e6, f6⟩ := hE 6 (by omega)
      obtain ⟨e7, f7⟩ := hE 7 (by omega)
      obtain ⟨e8, f8⟩ := hE 8 (by omega)
      obtain ⟨e9, f9⟩ := hE 9 (by omega)
      obtain ⟨e10, f10⟩ := hE 10 (by omega)
      obtain ⟨e11, f11⟩ := hE 11 (by omega)
      have t0 := hT 0 (by omega)
      have t1 := hT 1 (by omega)
      have t2 := hT 2 (by omega)
      have t3 := hT 3 (by omega)
      have t4 := hT 4 (by omega)
      have t5 := hT 5 (by omega)
      have t6 := hT 6 (by omega)
      have t7 := hT 7 (by omega)
      have t8 := hT 8 (by omega)
      have t9 := hT 9 (by omega)
      have t10 := hT 10 (by omega)
      have t11 := hT 11 (by omega)
      have HBL := Lib.hid hb
      have hfin := Lib.hid (set12_block (B := B) hb0 hc0)
      have hlt : w.heap.size + 1 < wr.heap.size := block_lt hbc
      clear hT hE hc hb hbc hb0 ho
      generalize blkAt p N q = bq at *
      go_wp2
      refine bodyPost_ret (v := befV B) ?_ rfl ⟨rfl, HBL.out.trans (set12_below (Nat.le_refl _) B)⟩
      have hld := hfin.out
      unfold set12 at hld
      exact results_cell_row rfl _ _ w.heap.size _ (arr12 B) (0, 0) _ rfl hld Tryd.underlying52 rfl info12
    | succ m =>
      have hm12 : m < 12 := by omega
      have HBL := Lib.hid hb
      have HT := Lib.hid (HH.out.below hb)
      have FIN : Hid (∀ q', q' ≤ pl → onB N q' m → (∀ i, q' ≤ i → i < pl → hiAt N i ≤ m) → ∃ q c, (.pointer (some ⟨blkAt p N q', 0, none⟩) : Value) = .pointer (some ⟨blkAt p N q, 0, none⟩) ∧ q ≤ pl ∧ onB N q m ∧ BefC B m c ∧
          Below w.heap.size w (wr.setCell ⟨w.heap.size + 1, m, none⟩ (.pointer (some ⟨blkAt p N q', 0, none⟩))) ∧ (wr.setCell ⟨w.heap.size + 1, m, none⟩ (.pointer (some ⟨blkAt p N q', 0, none⟩))).heap[w.heap.size + 1]? = some (.cells c 52 (0, 0)) ∧
          ∃ c0, (wr.setCell ⟨w.heap.size + 1, m, none⟩ (.pointer (some ⟨blkAt p N q', 0, none⟩))).heap[w.heap.size]? = some (.cells c0 52 (0, 0)) ∧ c0.size = 12) := fun q' h1 h2 h3 => by
        refine ⟨q', _, rfl, h1, h2, ⟨by simp [hc.1], fun j a b => ?_⟩, hb.setCell (p := ⟨w.heap.size + 1, m, none⟩) (by simp) _, block_set hbc m _, c0, (heap_set_other (by omega)).trans hb0, hc0⟩
        by_cases e : m = j
        · subst e
          rw [Array.getElem?_setIfInBounds_self_of_lt (by rw [hc.1]; exact hm12), HB.out m hm12, lastOn_of h1 h2 h3]
        · rw [Array.getElem?_setIfInBounds_ne e]; exact hc.2 j (by omega) b
      have hfz : wr.frozen? ⟨w.heap.size + 1, m, none⟩ = false := block_free hbc m
      obtain ⟨ov, hov⟩ : ∃ ov, wr.cell? ⟨w.heap.size + 1, m, none⟩ = some ov := by rw [block_cell hbc]; exact ⟨c[m]'(by rw [hc.1]; exact hm12), by simp⟩
      have ho' : onB N q m := by rcases ho with ho | ho; exact .inl ho; exact .inr (by omega)
      have HO := Lib.hid ho'
      have hl0 := SkipL.link HT.out.sk (q := q) (by omega) hm12
      rw [lkAt_on ho'] at hl0
      clear hc hbc hb0 hc0 hb ho ho'
      have HQ := Lib.hid hl0
      clear hl0
      have hv : ∃ v, wr.cell? ⟨blkAt p N q, 3 + m, none⟩ = some v := ⟨_, HQ.out⟩
      have hxx : ∃ o, ptrV (nxL m (N.drop q)) = .pointer o := ⟨_, rfl⟩
      obtain ⟨o, ho⟩ := hxx
      have hq0 := HQ.out
      rw [ho] at hq0
      have HX := Lib.hid ho
      clear ho hv
      generalize hbq : blkAt p N q = bq at *
      have HBQ := Lib.hid hbq
      clear hbq
      go_wp2
      clear hq0 HQ
      go_loopg [6, 8] (pl - q) (fun g nv xv wx => wx = wr ∧ ∃ q' o', q' + g = pl ∧ nv = .pointer (some ⟨blkAt p N q', 0, none⟩) ∧ xv = .pointer o' ∧ Hid (ptrV (nxL m (N.drop q')) = .pointer o') ∧ Hid (onB N q' m))
      case atStart => exact ⟨rfl, q, o, by omega, by rw [HBQ.out], rfl, HX, HO⟩
      case round =>
        obtain ⟨rfl, q', o', hg, rfl, rfl, hx, ho'⟩ := hrel
        rcases nxL_drop m N q' with ⟨e1, gap⟩ | ⟨i, hi, hqi, e1, him, gap⟩
        · obtain rfl : o' = none := by have := hx.out; rw [e1] at this; injection this with t; exact t.symm
          have HF := Lib.hid (FIN.out q' (by omega) ho'.out (fun i a _ => gap i a))
          clear e1 gap
          go_wp2
          go_roundg m
          case measure => omega
          case rel => exact ⟨by omega, by go_num, HF.out⟩
        · obtain rfl : o' = some ⟨N[i].blk, 0, none⟩ := by have := hx.out; rw [e1] at this; injection this with t; exact t.symm
          have hk := (SkipL.key HT.out.sk hi).1
          by_cases hb : Op.bytesLess N[i].pr.key.toList k.toList = true
          · have hil : i < pl := by
              rcases Nat.lt_or_ge i pl with a | a
              · exact a
              · exfalso
                have h3 := place_beyond HT.out.rising (k := k) (i := i) (by rw [← HT.out.len]; exact hi) (by rw [HP.out]; exact a)
                rw [← HT.out.at hi] at h3
                unfold befB at h3
                rw [hb] at h3; cases h3
            have hon : onB N (i + 1) m := .inr (by rw [Nat.add_sub_cancel, hiAt_lt hi]; exact him)
            have hl := SkipL.link HT.out.sk (q := i + 1) (by omega) hm12
            rw [lkAt_on hon, blkAt_succ hi] at hl
            obtain ⟨o2, ho2⟩ : ∃ o2, ptrV (nxL m (N.drop (i + 1))) = .pointer o2 := ⟨_, rfl⟩
            rw [ho2] at hl
            have HO2 := Lib.hid ho2
            have HON := Lib.hid hon
            have HI := Lib.hid (blkAt_succ (p := p) hi)
            clear e1 gap ho2 hon hx ho'
            generalize N[i].blk = bi at *
            go_wp2
            go_roundg (pl - (i + 1))
            case measure => omega
            case rel => exact ⟨rfl, i + 1, o2, by omega, by rw [HI.out], rfl, HO2, HON⟩
          · have hb2 : Op.bytesLess N[i].pr.key.toList k.toList = false := by simpa using hb
            have hil : pl ≤ i := by
              rcases Nat.lt_or_ge i pl with a | a
              · exfalso
                have h3 := placeP_before (k := k) (l := l) (j := i) (by rw [← HT.out.len]; exact hi) (by rw [HP.out]; exact a)
                rw [← HT.out.at hi] at h3
                exact hb h3
              · exact a
            have HF := Lib.hid (FIN.out q' (by omega) ho'.out (fun k' a b => gap k' a (by omega)))
            clear e1 gap hb
            go_wp2
            go_roundg m
            case measure => omega
            case rel => exact ⟨by omega, by go_num, HF.out⟩
end Go.Proofs.YtmmamgnbonpkiaaDoor

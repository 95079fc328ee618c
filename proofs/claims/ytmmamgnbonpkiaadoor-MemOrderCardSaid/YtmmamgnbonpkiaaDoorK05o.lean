/- Layer 5: the walk of MemOrder, whatever the table. -/
import Derived.Test.YtmmamgnbonpkiaaDoorK05w
import Derived.Test.YtmmamgnbonpkiaaDoorW05m
import Derived.IntWalk
namespace Go.Proofs.YtmmamgnbonpkiaaDoor
open Go.RowKit Go.Maps Go.WideMaps
set_option linter.unusedVariables false

/-- Two tables, apart from each other, all of the call's own. -/
structure TwoS (T : World → Nat → List PairS → (Nat → Prop) → Prop) (w wr : World) (p q : Nat) (l m : List PairS) (F G : Nat → Prop) : Prop where
  tab : T wr p l F
  two : T wr q m G
  apart : ∀ j, F j → ¬ G j
  f : ∀ j, F j → w.heap.size ≤ j ∧ j < wr.heap.size
  g : ∀ j, G j → w.heap.size ≤ j ∧ j < wr.heap.size
  below : Below w.heap.size w wr
section
variable {T : World → Nat → List PairS → (Nat → Prop) → Prop} {w wr w' : World} {p q : Nat} {l m l' m' : List PairS} {F G : Nat → Prop}
theorem TwoS.later (K : MemK T) (h : TwoS T w wr p q l m F G) (hb : Below wr.heap.size wr w') : TwoS T w w' p q l m F G :=
  ⟨K.kept h.tab (Turn.of_below (fun _ => False) hb) (fun _ _ h => h), K.kept h.two (Turn.of_below (fun _ => False) hb) (fun _ _ h => h), h.apart, fun j hj => ⟨(h.f j hj).1, by have := (h.f j hj).2; have := hb.size; omega⟩, fun j hj => ⟨(h.g j hj).1, by have := (h.g j hj).2; have := hb.size; omega⟩, h.below.trans (hb.mono h.below.size)⟩
theorem TwoS.onTab (K : MemK T) (h : TwoS T w wr p q l m F G) (hb : T w' p l' (Grown F wr w')) (t : Turn F wr w') : TwoS T w w' p q l' m (Grown F wr w') G := by
  have hs := t.size
  have h0 := h.below.size
  refine ⟨hb, K.kept h.two t (fun j hj hf => h.apart j hf hj), fun j hj hg => ?_, fun j hj => ?_, fun j hj => ⟨(h.g j hj).1, by have := (h.g j hj).2; omega⟩, h.below.trans (t.below (fun j hj => (h.f j hj).1) h0)⟩
  · rcases hj with hj | hj
    · exact h.apart j hj hg
    · have := (h.g j hg).2; omega
  · rcases hj with hj | hj
    · exact ⟨(h.f j hj).1, by have := (h.f j hj).2; omega⟩
    · exact ⟨by omega, hj.2⟩
theorem TwoS.onTwo (K : MemK T) (h : TwoS T w wr p q l m F G) (hb : T w' q m' (Grown G wr w')) (t : Turn G wr w') : TwoS T w w' p q l m' F (Grown G wr w') := by
  have hs := t.size
  have h0 := h.below.size
  refine ⟨K.kept h.tab t (fun j hj hg => h.apart j hj hg), hb, fun j hj hg => ?_, fun j hj => ⟨(h.f j hj).1, by have := (h.f j hj).2; omega⟩, fun j hj => ?_, h.below.trans (t.below (fun j hj => (h.g j hj).1) h0)⟩
  · rcases hg with hg | hg
    · exact h.apart j hj hg
    · have := (h.f j hj).2; omega
  · rcases hj with hj | hj
    · exact ⟨(h.g j hj).1, by have := (h.g j hj).2; omega⟩
    · exact ⟨by omega, hj.2⟩
end

theorem tmod_emod (a n : Int) : (a.tmod n) % n = a % n := by
  rw [Int.tmod_def, Int.sub_mul_emod_self_left]
theorem tmod_pos {a n : Int} (h : 0 ≤ a) : a.tmod n = a % n := Int.tmod_eq_emod_of_nonneg h
theorem tmod_in {a n : Int} (h : 0 < n) : -n < a.tmod n ∧ a.tmod n < n := ⟨Int.lt_tmod_of_pos a h, Int.tmod_lt_of_pos a h⟩
/-- The other order's place, as the law reckons it. -/
theorem back_key {n i : Nat} (hn : 0 < n) (hm : n ≤ 4398046511104) (hi : i < n) (t : Int) :
    (wrap64 ((wrap64 ((i : Int) + t.tmod (n : Int))).tmod (n : Int) + (n : Int))).tmod (n : Int) = (((((i : Int) + t) % (n : Int)).toNat : Nat) : Int) := by
  have hp : (0 : Int) < n := by omega
  obtain ⟨a1, a2⟩ := tmod_in (a := t) hp
  have e1 : wrap64 ((i : Int) + t.tmod (n : Int)) = (i : Int) + t.tmod (n : Int) := IntWalk.wrap64_in _ (by omega)
  rw [e1]
  obtain ⟨b1, b2⟩ := tmod_in (a := (i : Int) + t.tmod (n : Int)) hp
  have e2 : wrap64 (((i : Int) + t.tmod (n : Int)).tmod (n : Int) + (n : Int)) = ((i : Int) + t.tmod (n : Int)).tmod (n : Int) + (n : Int) := IntWalk.wrap64_in _ (by omega)
  rw [e2, tmod_pos (by omega), Int.add_emod_right, tmod_emod, Int.add_emod, tmod_emod, ← Int.add_emod]
  have := Int.emod_nonneg ((i : Int) + t) (show (n : Int) ≠ 0 by omega)
  omega
theorem back_wrap {n r : Nat} (hm : n ≤ 4398046511104) (hr : r < n) : wrap64 ((n : Int) - 1 - (r : Int)) = ((n - 1 - r : Nat) : Int) := by
  rw [IntWalk.wrap64_in _ (by omega)]
  omega
theorem ownsRow_zero {w : World} {base : Nat} {e : TypeId} {size : Nat} {v : Value} {n : Nat} {xs : List Value} (h : w.ownsRow base e size v n xs) : w.ownsRow 0 e size v n xs := by
  obtain ⟨h1, h2⟩ := h
  refine ⟨h1, ?_⟩
  rcases h2 with h2 | ⟨g, cap, cur, a, b, c⟩
  · exact .inl h2
  · exact .inr ⟨g, cap, cur, a, Nat.zero_le _, c⟩

/-- A row of pairs of the call's own, apart from both. -/
structure RowL (w : World) (v : Value) (l : List PairS) (F G : Nat → Prop) : Prop where
  row : w.ownsRow 0 31 3 v l.length (rowP l)
  nf : ∀ k, v.ownBlock = some k → ¬ F k
  ng : ∀ k, v.ownBlock = some k → ¬ G k
section
variable {w w' : World} {v : Value} {l : List PairS} {F G : Nat → Prop}
theorem RowL.later (h : RowL w v l F G) (t : Below w.heap.size w w') : RowL w' v l F G := ⟨(Turn.of_below (fun _ => False) t).row h.row (fun _ _ h => h), h.nf, h.ng⟩
theorem RowL.onF (h : RowL w v l F G) (t : Turn F w w') : RowL w' v l (Grown F w w') G :=
  ⟨t.row h.row h.nf, fun k hk hh => by have := (h.row.lt k hk).2; rcases hh with hh | hh; exact h.nf k hk hh; omega, h.ng⟩
theorem RowL.onG (h : RowL w v l F G) (t : Turn G w w') : RowL w' v l F (Grown G w w') :=
  ⟨t.row h.row h.ng, h.nf, fun k hk hh => by have := (h.row.lt k hk).2; rcases hh with hh | hh; exact h.ng k hk hh; omega⟩
end

/-- The first loop under way: the keys that were seen, the first pair of each. -/
structure Firsts (w3 wr : World) (mb : Nat) (v : Value) (l : List PairS) : Prop where
  seen : SeenM wr mb l
  row : wr.ownsRow (mb + 1) 31 3 v l.length (rowP l)
  below : Below mb w3 wr
theorem Firsts.later {w3 wr w' : World} {mb : Nat} {v : Value} {l : List PairS} (h : Firsts w3 wr mb v l) (t : Below wr.heap.size wr w') : Firsts w3 w' mb v l :=
  ⟨h.seen.kept (Turn.of_below (fun _ => False) t) (fun h => h), (Turn.of_below (fun _ => False) t).row h.row (fun _ _ h => h), h.below.trans (t.mono (Nat.le_of_lt h.seen.lt))⟩
/-- A key is entered; a row is entered. -/
theorem Firsts.entered {w3 wr wB wC w' : World} {mb : Nat} {v v' : Value} {l : List PairS} {x : PairS} (h : Firsts w3 wr mb v l) (hs : SeenM wB mb (l ++ [x])) (hg : wr.grownBy wB (some mb)) (hc : wC = wB.alloc (.cells #[.string x.key, .string x.val, .bool x.gone] 31))
    (ho : w'.ownsRow (mb + 1) 31 3 v' (l ++ [x]).length (rowP (l ++ [x]))) (hg2 : wC.grownBy w' v.ownBlock) : Firsts w3 w' mb v' (l ++ [x]) := by
  have hlt := h.seen.lt
  have t1 : Turn (fun i => i = mb) wr wB := (Turn.refl _ wr).grown hg (fun k hk => by injection hk with hk; exact .inl hk.symm)
  have s1 := t1.size
  have t2 : Turn (fun i => v.ownBlock = some i) wB w' := by
    have a := (Turn.refl (fun i => v.ownBlock = some i) wB).alloc (.cells #[.string x.key, .string x.val, .bool x.gone] 31)
    rw [← hc] at a
    exact a.grown hg2 (fun k hk => .inl hk)
  refine ⟨hs.kept t2 (fun e => by have := (h.row.lt mb e).1; omega), ho, ?_⟩
  have hb : Below mb wr w' := (t1.below (fun i hi => by omega) (by omega)).trans (t2.below (fun i hi => by have := (h.row.lt i hi).1; omega) (by omega))
  exact h.below.trans hb

set_option maxHeartbeats 8000000 in
set_option maxRecDepth 100000 in
theorem order5_walk {T : World → Nat → List PairS → (Nat → Prop) → Prop} (K : MemK T) (a0 : Option Addr) (c0 : Nat) (ps : List PairS) (turn : Int) (w : World)
    (h0 : ReadP w (.slice a0 ps.length c0) ps) (hN : ps.length ≤ 3518437208780) (hX : ∀ x ∈ ps, x.key.size ≤ maxLen) (ht : (Lit.int .i64 turn).wf = true) (hQ : Tab64 w) :
    Calls Tryd.prog 4 #[.slice a0 ps.length c0, .int .i64 turn] w fun e w' => e = .returned (.bool true) ∧ Below w.heap.size w w' := by
  have hb := bounds_i64 ht
  obtain ⟨i0, hi, hz0, hz1, hz2⟩ := info_parts infoPair
  have hmm := @run_makeMap Tryd.prog
  go_enter Tryd.func4, Tryd.ntmps4
  go_wp2_with fail
  refine (awake5_any K _ hQ).mono ?_
  rintro e w1 ⟨rfl, b1⟩
  go_wp2_with fail
  refine (K.new _).mono ?_
  rintro e w2 ⟨p, rfl, h2, b2⟩
  go_wp2_with fail
  refine (K.new _).mono ?_
  rintro e w3 ⟨q, rfl, h3, b3⟩
  have hst : ∃ F G, TwoS T w w3 p q [] [] F G := by
    have g1 := b1.size
    have g2 := b2.size
    have g3 := b3.size
    exact ⟨_, _, K.kept h2 (Turn.of_below (fun _ => False) b3) (fun _ _ h => h), h3, fun j hj e => by have := hj.2; have := e.1; omega, fun j hj => ⟨by have := hj.1; omega, by have := hj.2; omega⟩, fun j hj => ⟨by have := hj.1; omega, hj.2⟩, (b1.trans (b2.mono g1)).trans (b3.mono (by omega))⟩
  have hfs : Firsts w3 (w3.alloc (.map #[] 0)) w3.heap.size (.slice none 0 0) [] := ⟨SeenM.made w3, World.ownsRow_nil _ _ _ _, (Below.refl _ w3).alloc (Nat.le_refl _) _⟩
  have HST := Lib.hid hst
  have HFS := Lib.hid hfs
  have HX := Lib.hid hX
  have H0 := Lib.hid (h0.below ((b1.trans (b2.mono b1.size)).trans (b3.mono (Nat.le_trans b1.size b2.size))))
  have HQ := Lib.hid hQ
  clear h2 b1 b2 b3 h3 hst h0 hfs hX hQ
  go_wp2
  go_loopw [8, 24] (fun lv iv wr => ∃ k : Nat, k ≤ ps.length ∧ iv = .int .i64 (k : Int) ∧ Hid (Firsts w3 wr w3.heap.size lv (firstsP (ps.take k)))) (fun lv iv _ => ps.length - (intOf iv).toNat)
  case atStart => exact ⟨0, by omega, rfl, HFS.out⟩
  case round =>
    clear HFS
    obtain ⟨k, hk, rfl, HR⟩ := hrel
    by_cases hlt : k < ps.length
    · obtain ⟨b, off, rfl, q0, q1, q2⟩ := H0.out.in HR.out.below hlt
      have hxk := HX.out ps[k] (List.getElem_mem hlt)
      have HN := Lib.hid (firstsP_next hlt)
      have hfl := firstsP_len ps k
      generalize ps[k] = X at *
      obtain ⟨xk, xv, xg⟩ := X
      simp only at q0 q1 q2 hxk
      generalize firstsP (ps.take k) = L at *
      go_upto_region 9 with (fail)
      have hbl := (Below.refl wr.heap.size wr).alloc (Nat.le_refl _) (.cells #[.string xk, .string xv, .bool xg] 31)
      have hnew := heap_alloc_new wr (.cells #[.string xk, .string xv, .bool xg] 31)
      have HF := Lib.hid (HR.out.later hbl)
      have hml := HR.out.seen.lt
      clear HR q0 q1 q2 hbl
      generalize wr.alloc (.cells #[.string xk, .string xv, .bool xg] 31) = wl at *
      generalize wr.heap.size = lb at *
      have l0 : wl.cell? ⟨lb, 0, none⟩ = some (.string xk) := by rw [block_cell hnew]; rfl
      have l1 : wl.cell? ⟨lb, 1, none⟩ = some (.string xv) := by rw [block_cell hnew]; rfl
      have l2 : wl.cell? ⟨lb, 2, none⟩ = some (.bool xg) := by rw [block_cell hnew]; rfl
      have hlook := HF.out.seen.look xk hxk
      by_cases hh : hasK xk L = true
      · rw [hh] at hlook
        have HL : Hid (addP L ⟨xk, xv, xg⟩ = L) := by show _ = _; unfold addP; rw [if_pos hh]
        clear hnew hh
        go_wp2
        go_roundw
        case rel => exact ⟨k + 1, by omega, by go_num, by rw [HN.out, HL.out]; exact HF.out⟩
        case measure => simp [intOf]; omega
      · have hh' : hasK xk L = false := by simpa using hh
        rw [hh'] at hlook
        have HL : Hid (addP L ⟨xk, xv, xg⟩ = L ++ [⟨xk, xv, xg⟩]) := by show _ = _; unfold addP; rw [if_neg hh]
        obtain ⟨wB, hrun, hs, hg⟩ := HF.out.seen.add ⟨xk, xv, xg⟩ hxk (by unfold maxLen; omega)
        have t1 : Turn (fun i => i = w3.heap.size) wl wB := (Turn.refl _ wl).grown hg (fun k hk => by injection hk with hk; exact .inl hk.symm)
        have hnew2 := t1.keeps hnew (by omega)
        have m0 : wB.cell? ⟨lb, 0, none⟩ = some (.string xk) := by rw [block_cell hnew2]; rfl
        have m1 : wB.cell? ⟨lb, 1, none⟩ = some (.string xv) := by rw [block_cell hnew2]; rfl
        have m2 : wB.cell? ⟨lb, 2, none⟩ = some (.bool xg) := by rw [block_cell hnew2]; rfl
        have hrow := t1.row HF.out.row (fun k hk e => by have := (HF.out.row.lt k hk).1; omega)
        have hBs : w3.heap.size + 1 ≤ wB.heap.size := by have := t1.size; have := HF.out.seen.lt; omega
        have HS := Lib.hid hs
        have HG := Lib.hid hg
        simp only at hrun
        clear hnew hnew2 t1 hh hh' hs hg
        go_wp2_with (at_builtin; go_loud (refine wpList_append_own _ rfl (.tmp 36) (.tmp 38) 22 rfl (w3.heap.size + 1) 31 i0 _ 3 40 Tryd.underlying22 hi hz0 hz1 hz2 rfl (by decide) _ _ _ rfl (hrow.alloc _) ⟨wB.heap.size, 0, none⟩ 1 1 [.string xk, .string xv, .bool xg] rfl rfl (cells_new wB ⟨xk, xv, xg⟩) (three_one ⟨xk, xv, xg⟩) ?c3 ?c4 ?c5 ?_))
        case c3 => unfold maxLen; omega
        case c4 => omega
        case c5 => simp; omega
        intro v' w2' hown' hgrow _
        have hrow' : w2'.ownsRow (w3.heap.size + 1) 31 3 v' (L ++ [(⟨xk, xv, xg⟩ : PairS)]).length (rowP (L ++ [(⟨xk, xv, xg⟩ : PairS)])) := by
          rw [List.length_append, rowP_snoc]
          exact hown'
        have HE := Lib.hid (HF.out.entered HS.out HG.out rfl hrow' hgrow)
        clear hown' hgrow hrow' hrow hlook hrun l0 l1 l2 m0 m1 m2
        go_wp2
        go_roundw
        case rel => exact ⟨k + 1, by omega, by go_num, by rw [HN.out, HL.out]; exact HE.out⟩
        case measure => simp [intOf]; omega
    · have hL0 := firstsP_unlike (ps.take k)
      have hfl := firstsP_len ps k
      generalize firstsP (ps.take k) = L at *
      have hst : ∃ F G, TwoS T w wr p q [] [] F G ∧ RowL wr u8 L F G := by
        obtain ⟨F, G, h2⟩ := HST.out
        refine ⟨F, G, h2.later K HR.out.below, (ownsRow_zero HR.out.row), fun j hj hf => ?_, fun j hj hg => ?_⟩
        · have := (h2.f j hf).2; have := (HR.out.row.lt j hj).1; omega
        · have := (h2.g j hg).2; have := (HR.out.row.lt j hj).1; omega
      obtain ⟨a5, c5, rfl⟩ := (ReadP.own HR.out.row).slice
      have HS := Lib.hid hst
      have HL := Lib.hid hL0
      have HB := Lib.hid HR.out.below
      clear HST hst hL0 HR HX H0 hi hz0 hz1 hz2 hmm
      go_wp2
      go_loopw [43] (fun iv wx => ∃ i : Nat, i ≤ L.length ∧ iv = .int .i64 (i : Int) ∧ Hid (∃ F G, TwoS T w wx p q (putsP (L.take i)) (putsP (turnedP L turn i)) F G ∧ RowL wx (.slice a5 L.length c5) L F G)) (fun iv _ => L.length - (intOf iv).toNat)
      case atStart => exact ⟨0, by omega, rfl, HS.out⟩
      case round =>
        clear HS
        obtain ⟨i, hi5, rfl, HR⟩ := hrel
        by_cases hil : i < L.length
        · obtain ⟨F, G, h2, hr⟩ := HR.out
          obtain ⟨b, off, rfl, q0, q1, q2⟩ := (ReadP.own hr.row).at hil
          have hza := putsP_len L i
          have hsa := (putsP_fine (L.take i)).size
          have hsa2 : sizeP (putsP (L.take i)) ≤ 36028797018963968 := by omega
          have HN := Lib.hid (putsP_next hil)
          generalize L[i] = X at *
          obtain ⟨xk, xv, xg⟩ := X
          simp only at q0 q1 q2
          have HT := Lib.hid h2
          have HRo := Lib.hid hr
          clear h2 hr HR
          go_wp2_with fail
          refine (K.put ⟨xk, xv, xg⟩ (HQ.out.below HT.out.below) HT.out.tab (by omega) hsa2).mono ?_
          rintro e wA ⟨rfl, hA, tA⟩
          have TA := Lib.hid (HT.out.onTab K hA tA)
          have RA := Lib.hid (HRo.out.onF tA)
          clear q0 q1 q2 hA tA hsa hsa2 HT HRo
          have hn0 : ((L.length : Int) == 0) = false := by rw [beq_eq_false_iff_ne]; omega
          have hkey := back_key (n := L.length) (by omega) (by omega) hil turn
          have HNB := Lib.hid (turnedP_next L turn i)
          have hbk := backAt_lt (n := L.length) (by omega) turn i
          have hzb := putsP_len (turnedP L turn i) i
          have hsb := (putsP_fine (turnedP L turn i)).size
          have htk : (turnedP L turn i).take i = turnedP L turn i := List.take_of_length_le (by rw [turnedP_len]; omega)
          rw [htk] at hzb
          have hsb2 : sizeP (putsP (turnedP L turn i)) ≤ 36028797018963968 := by omega
          obtain ⟨b', off', he', q0, q1, q2⟩ := (ReadP.own RA.out.row).at hbk
          simp only [Option.some.injEq, Addr.mk.injEq, and_true] at he'
          obtain ⟨rfl, rfl⟩ := he'
          have hgd : L.getD (backAt L.length turn i) zeroP = L[backAt L.length turn i] := by simp [List.getD, hbk]
          rw [hgd] at HNB
          generalize L[backAt L.length turn i] = Y at *
          obtain ⟨yk, yv, yg⟩ := Y
          simp only at q0 q1 q2
          unfold backAt at q0 q1 q2 hbk
          have hre : (((i : Int) + turn) % (L.length : Int)).toNat < L.length := by
            have := Int.emod_lt_of_pos ((i : Int) + turn) (show (0 : Int) < L.length by omega)
            have := Int.emod_nonneg ((i : Int) + turn) (show (L.length : Int) ≠ 0 by omega)
            omega
          generalize (((i : Int) + turn) % (L.length : Int)).toNat = r at *
          have hwr := back_wrap (n := L.length) (r := r) (by omega) hre
          clear hsb hgd htk
          go_wp2_with (first | simp only [hkey] | simp only [hwr])
          refine (K.put ⟨yk, yv, yg⟩ (HQ.out.below TA.out.below) TA.out.two (by omega) hsb2).mono ?_
          rintro e wB ⟨rfl, hB, tB⟩
          have TB := Lib.hid (TA.out.onTwo K hB tB)
          have RB := Lib.hid (RA.out.onG tB)
          clear q0 q1 q2 hB tB hkey hwr
          go_wp2
          go_roundw
          case rel => exact ⟨i + 1, by omega, by go_num, by rw [HN.out, HNB.out, putsP_snoc]; exact ⟨_, _, TB.out, RB.out⟩⟩
          case measure => simp [intOf]; omega
        · obtain rfl : i = L.length := by omega
          obtain ⟨F, G, h2, _⟩ := HR.out
          rw [List.take_length, turned_order HL.out] at h2
          have hz := putsP_len L L.length
          rw [List.take_length] at hz
          generalize putsP L = M at *
          have hLM : M.length ≤ 3518437208880 := by omega
          have H2 := Lib.hid h2
          clear h2 HR HL
          go_wp2_with fail
          refine (K.len H2.out.tab).mono ?_
          rintro e w4 ⟨rfl, b4⟩
          have H4 := Lib.hid (H2.out.later K b4)
          clear b4
          go_wp2_with fail
          refine (K.len H4.out.two).mono ?_
          rintro e w5 ⟨rfl, b5⟩
          have H5 := Lib.hid (H4.out.later K b5)
          clear b5
          go_wp2_with fail
          refine (K.seq ⟨#[]⟩ H5.out.tab (by decide)).mono ?_
          rintro e wA ⟨g, lb, Gs, rfl, eg, hgi, hG, bA, -⟩
          have HA := Lib.hid (H5.out.later K bA)
          have hcol := collect_any g lb eg Gs (fromP ⟨#[]⟩ M) wA hG (by rw [from_nil]; exact hLM) (hgi _ (Below.refl _ _))
          rw [from_nil] at hcol
          clear bA hgi
          go_wp2_with fail
          refine hcol.mono ?_
          rintro e wB ⟨vB, rfl, oB, bB⟩
          have HC := Lib.hid (HA.out.later K bB)
          have rB := Lib.hid (ReadP.own oB)
          clear bB oB hcol hG eg
          go_wp2_with fail
          refine (K.seq ⟨#[]⟩ HC.out.two (by decide)).mono ?_
          rintro e wD ⟨g, lb, Gs, rfl, eg, hgi, hG, bD, -⟩
          have HD := Lib.hid (HC.out.later K bD)
          have rD := Lib.hid (rB.out.below bD)
          have hcol := collect_any g lb eg Gs (fromP ⟨#[]⟩ M) wD hG (by rw [from_nil]; exact hLM) (hgi _ (Below.refl _ _))
          rw [from_nil] at hcol
          clear bD hgi
          go_wp2_with fail
          refine hcol.mono ?_
          rintro e wE ⟨vE, rfl, oE, bE⟩
          have HE := Lib.hid (HD.out.later K bE)
          have rE := Lib.hid (ReadP.own oE)
          have hsm := rsame_any (rD.out.below bE) rE.out
          rw [sameP_refl] at hsm
          clear bE oE hcol hG eg
          go_wp2_with fail
          refine hsm.mono ?_
          rintro e wF ⟨rfl, nF, rfl⟩
          have HF := Lib.hid (HE.out.later K (drawnB wE nF))
          clear hsm
          go_wp2
          go_ret
          exact ⟨rfl, HF.out.below⟩
end Go.Proofs.YtmmamgnbonpkiaaDoor

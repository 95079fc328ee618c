/- Layer 5: contracts of the reference's Get, From, Same. -/
import Derived.Test.YtmmamgnbonpkiaaDoorR05
import Derived.Laws.StructEq
import Derived.Laws.ResultCell
namespace Go.Proofs.YtmmamgnbonpkiaaDoor
open Go.RowKit Go.Maps Go.WideMaps
set_option linter.unusedVariables false

/-- Pairs in a row that can be read. -/
def ReadP (w : World) (x : Value) (l : List PairS) : Prop :=
  l.length ≤ maxLen ∧ ∃ a c, x = .slice a l.length c ∧ (l = [] ∨ ∃ b o, a = some ⟨b, o, none⟩ ∧ ∀ i (h : i < l.length), w.cell? ⟨b, o + i * 3, none⟩ = some (.string l[i].key) ∧ w.cell? ⟨b, o + i * 3 + 1, none⟩ = some (.string l[i].val) ∧ w.cell? ⟨b, o + i * 3 + 2, none⟩ = some (.bool l[i].gone))
theorem ReadP.below {w w' : World} {x : Value} {l : List PairS} (h : ReadP w x l) (t : Below w.heap.size w w') : ReadP w' x l := by
  obtain ⟨hm, a, c, rfl, h1⟩ := h
  refine ⟨hm, a, c, rfl, ?_⟩
  rcases h1 with h1 | ⟨b, o, rfl, h1⟩
  · exact .inl h1
  · refine .inr ⟨b, o, rfl, fun i hi => ?_⟩
    obtain ⟨q0, q1, q2⟩ := h1 i hi
    exact ⟨(t.cell (World.block_lt_of_cell? _ _ q0)).trans q0, (t.cell (World.block_lt_of_cell? _ _ q1)).trans q1, (t.cell (World.block_lt_of_cell? _ _ q2)).trans q2⟩
theorem ReadP.own {w : World} {base : Nat} {v : Value} {l : List PairS} (h : w.ownsRow base 31 3 v l.length (rowP l)) : ReadP w v l := by
  have hr := h
  rcases h.2 with ⟨rfl, h0⟩ | ⟨g, cap, cur, rfl, _, hg, hle, hcm, _⟩
  · have : l = [] := List.eq_nil_of_length_eq_zero h0
    subst this
    exact ⟨by simp, none, 0, rfl, .inl rfl⟩
  · refine ⟨by omega, some ⟨g, 0, none⟩, cap, rfl, .inr ⟨g, 0, rfl, fun i hi => ?_⟩⟩
    obtain ⟨g', cap', hv, _, _, q0, q1, q2⟩ := row_pair hr hi
    injection hv with hv
    injection hv with hv
    injection hv with hv
    subst hv
    rw [Nat.zero_add]
    exact ⟨q0, q1, q2⟩
theorem ReadP.slice {w : World} {x : Value} {l : List PairS} (h : ReadP w x l) : ∃ a c, x = .slice a l.length c := by
  obtain ⟨hm, a, c, rfl, h1⟩ := h
  exact ⟨a, c, rfl⟩
theorem ReadP.at {w : World} {a : Option Addr} {n c : Nat} {l : List PairS} (h : ReadP w (.slice a n c) l) {i : Nat} (hi : i < l.length) : ∃ b o, a = some ⟨b, o, none⟩ ∧ w.cell? ⟨b, o + i * 3, none⟩ = some (.string l[i].key) ∧ w.cell? ⟨b, o + i * 3 + 1, none⟩ = some (.string l[i].val) ∧ w.cell? ⟨b, o + i * 3 + 2, none⟩ = some (.bool l[i].gone) := by
  obtain ⟨hm, a', c', hv, h1⟩ := h
  injection hv with h2 h3 h4
  subst h2
  rcases h1 with rfl | ⟨b, o, rfl, h1⟩
  · simp at hi
  · exact ⟨b, o, rfl, h1 i hi⟩

theorem toList_inj {a b : ByteArray} (h : a.toList = b.toList) : a = b := by
  rw [ByteArray.toList_eq, ByteArray.toList_eq] at h
  exact ByteArray.ext (Array.toList_inj.1 h)

/-- The same pairs? -/
def sameP (a b : List PairS) : Bool := decide (a = b)

set_option maxHeartbeats 1000000 in
set_option maxRecDepth 100000 in
theorem rsame_any {w : World} {x y : Value} {a b : List PairS} (ha : ReadP w x a) (hb : ReadP w y b) :
    Calls Tryd.prog 15 #[x, y] w fun e w' => e = .returned (.bool (sameP a b)) ∧ ∃ n, w' = w.drewN n := by
  have ma : a.length ≤ 9223372036854775807 := by have := ha.1; unfold maxLen at this; omega
  have mb : b.length ≤ 9223372036854775807 := by have := hb.1; unfold maxLen at this; omega
  obtain ⟨aa, ca, rfl⟩ := ha.slice
  obtain ⟨ab, cb, rfl⟩ := hb.slice
  have HA := Lib.hid ha
  have HB := Lib.hid hb
  clear ha hb
  by_cases hl : a.length = b.length
  · have hE : Hid (a.length = b.length) := hl
    have hne : ((a.length : Int) != (b.length : Int)) = false := by simp [hl]
    go_enter Tryd.func15, Tryd.ntmps15
    clear hl
    go_wp2
    go_loopw [5] (fun iv wr => ∃ k : Nat, k ≤ a.length ∧ iv = .int .i64 (k : Int) ∧ Hid (a.take k = b.take k) ∧ ∃ n, wr = w.drewN n) (fun iv _ => a.length - (intOf iv).toNat)
    case atStart => exact ⟨0, by omega, rfl, rfl, 0, rfl⟩
    case round =>
      obtain ⟨k, hk, rfl, ht, n, rfl⟩ := hrel
      by_cases hlt : k < a.length
      · have hlt2 : k < b.length := by have := hE.out; omega
        obtain ⟨ba, oa, rfl, p0, p1, p2⟩ := HA.out.at hlt
        obtain ⟨bb, ob, rfl, q0, q1, q2⟩ := HB.out.at hlt2
        have HT : Hid (a[k] = b[k] → a.take (k + 1) = b.take (k + 1)) := fun e => by
          rw [List.take_succ_eq_append_getElem hlt, List.take_succ_eq_append_getElem hlt2, ht.out, e]
        have HN : Hid (a[k] ≠ b[k] → sameP a b = false) := fun e => by
          simp only [sameP, decide_eq_false_iff_not]
          intro e2
          subst e2
          exact e rfl
        generalize a[k] = x at *
        generalize b[k] = y at *
        obtain ⟨k1, v1, g1⟩ := x
        obtain ⟨k2, v2, g2⟩ := y
        by_cases h1 : k1.toList = k2.toList
        · by_cases h2 : v1.toList = v2.toList
          · by_cases hd : g1 = g2
            · obtain rfl := toList_inj h1
              obtain rfl := toList_inj h2
              subst hd
              have HT2 := Lib.hid (HT.out rfl)
              clear HT HN ht h1 h2
              go_wp2
              go_quiet (fail)
              go_wp2
              go_roundw
              case rel => exact ⟨k + 1, by omega, by go_num, HT2, _, rfl⟩
              case measure => simp [intOf]; omega
            · have hd' := hd
              have HS := Lib.hid (HN.out (fun e => by cases e; simp at hd))
              clear HT HN ht
              go_wp2
              go_quiet (fail)
              go_wp2
              go_ret
              exact ⟨by rw [HS.out]; rfl, _, World.drewN_drewN _ _ _⟩
          · have hd := h2
            have HS := Lib.hid (HN.out (fun e => by cases e; simp at hd))
            clear HT HN ht
            go_wp2
            go_quiet (fail)
            go_wp2
            go_ret
            exact ⟨by rw [HS.out]; rfl, _, World.drewN_drewN _ _ _⟩
        · have hd := h1
          have HS := Lib.hid (HN.out (fun e => by cases e; simp at hd))
          clear HT HN ht
          go_wp2
          go_quiet (fail)
          go_wp2
          go_ret
          exact ⟨by rw [HS.out]; rfl, _, World.drewN_drewN _ _ _⟩
      · obtain rfl : k = a.length := by omega
        have HS : Hid (sameP a b = true) := by
          show _ = _
          have h1 := ht.out
          rw [List.take_length, hE.out, List.take_length] at h1
          simp [sameP, h1]
        go_wp2
        go_ret
        exact ⟨by rw [HS.out]; rfl, _, rfl⟩
  · have hne : ((a.length : Int) != (b.length : Int)) = true := by simp; omega
    have HS : Hid (sameP a b = false) := by
      show _ = _
      simp only [sameP, decide_eq_false_iff_not]
      exact fun e => hl (by rw [e])
    go_enter Tryd.func15, Tryd.ntmps15
    clear hl
    go_wp2
    go_ret
    exact ⟨by rw [HS.out]; rfl, 0, rfl⟩

set_option maxHeartbeats 1000000 in
set_option maxRecDepth 100000 in
theorem rget_any {w : World} {p : Nat} {v : Value} {l : List PairS} {F : Nat → Prop} (h : RTabIn w p v l F) (k : ByteArray) :
    Calls Tryd.prog 14 #[.pointer (some ⟨p, 0, none⟩), .string k] w fun e w' => e = .returned (.tuple #[((getP k l).getD zeroP).val', .bool (getP k l).isSome]) ∧ Below w.heap.size w w' := by
  have c0 := h.c0
  have hat := rat_any (h.below ((Below.refl _ w).alloc (Nat.le_refl _) (.cells #[.string ⟨#[]⟩, .string ⟨#[]⟩, .bool false] 31))) k
  by_cases ht : thereP k l = true
  · obtain ⟨hpl, hk⟩ := thereP_lt ht
    have HK : Hid (l[placeP k l].key = k) := hk
    clear hk
    have HG : Hid (getP k l = some l[placeP k l]) := by
      show _ = _
      unfold getP; rw [if_pos ht, List.getElem?_eq_getElem hpl]
    rw [ht] at hat
    obtain ⟨g, cap, rfl, hcap, hcm, q0, q1, q2⟩ := row_pair h.row hpl
    have hp := h.lt
    have hg := World.block_lt_of_cell? _ _ q0
    simp only at hg
    clear h ht
    rw [HG.out]
    generalize l[placeP k l] = x at *
    generalize placeP k l = i at *
    go_enter Tryd.func14, Tryd.ntmps14
    go_wp2_with fail
    refine hat.mono ?_
    rintro r w1 ⟨rfl, n, rfl⟩
    unfold maxLen at hcm
    go_wp2
    (try simp only [Exit.inBlock, Exit.then])
    refine bodyPost_ret (v := .tuple #[x.val', .bool true]) ?_ rfl ⟨rfl, ?_⟩
    · rw [results_cell_tmp rfl]
      go_simp
      unfold PairS.val'
      rw [HK.out]
    · exact (((below_drewN ((Below.refl _ w).alloc (Nat.le_refl _) _) n).setCell (Nat.le_refl _) _).setCell (Nat.le_refl _) _).setCell (Nat.le_refl _) _
  · have ht' : thereP k l = false := by simpa using ht
    have HG : Hid (getP k l = none) := by
      show _ = _
      unfold getP; rw [if_neg ht]
    rw [ht'] at hat
    clear h ht ht'
    rw [HG.out]
    go_enter Tryd.func14, Tryd.ntmps14
    go_wp2_with fail
    refine hat.mono ?_
    rintro r w1 ⟨rfl, n, rfl⟩
    go_wp2
    (try simp only [Exit.inBlock, Exit.then])
    refine bodyPost_ret (v := .tuple #[zeroP.val', .bool false]) ?_ rfl ⟨rfl, ?_⟩
    · rw [results_cell_tmp rfl]
      go_simp
      rfl
    · exact (((below_drewN ((Below.refl _ w).alloc (Nat.le_refl _) _) n).setCell (Nat.le_refl _) _).setCell (Nat.le_refl _) _).setCell (Nat.le_refl _) _
end Go.Proofs.YtmmamgnbonpkiaaDoor

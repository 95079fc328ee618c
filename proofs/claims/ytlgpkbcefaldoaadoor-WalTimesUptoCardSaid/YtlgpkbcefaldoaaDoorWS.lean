/- The reference's Same: two slices of texts. -/
import Derived.Test.YtlgpkbcefaldoaaDoorW00
import Derived.Test.YtlgpkbcefaldoaaDoorM01t
import Derived.Test.YtlgpkbcefaldoaaDoorM02b
import Derived.Deep.QuietTactic
import Derived.BigQuiet
namespace Go.Proofs.YtlgpkbcefaldoaaDoor
open Go.RowKit
set_option linter.unusedVariables false

theorem row1_owns {w : World} {base n : Nat} {v : Value} {l : List (List UInt8)} (h : w.ownsRow base 9 1 v n (l.map tx)) (hl : l.length = n) (hn : n ≤ 9223372036854775807) :
    ∃ a cap, v = .slice a n cap ∧ Row1 w a n (fun i => tx (l.getD i [])) := by
  rcases h.2 with ⟨rfl, h0⟩ | ⟨g, cap, cur, rfl, _, hg, hle, _, hcs, htake⟩
  · subst h0
    exact ⟨none, 0, rfl, by omega, .inl rfl⟩
  · have hc : ∀ i, i < n → w.cell? ⟨g, 0 + i, none⟩ = some (tx (l.getD i [])) := by
      intro i hi
      rw [cell_of_row w g _ cur _ _ hg]
      have : (cur.toList.take (n * 1))[0 + i]? = (l.map tx)[0 + i]? := by rw [htake]
      rw [List.getElem?_take, if_pos (by omega)] at this
      rw [← Array.getElem?_toList, this]
      simp [List.getD, hl, hi]
    refine ⟨some ⟨g, 0, none⟩, cap, rfl, hn, ?_⟩
    by_cases h0 : n = 0
    · exact .inl h0
    · exact .inr ⟨g, 0, rfl, World.block_lt_of_cell? w ⟨g, 0 + 0, none⟩ (hc 0 (by omega)), hc⟩

theorem Row1.below {w w' : World} {a : Option Addr} {n : Nat} {V : Nat → Value} (h : Row1 w a n V) (hb : Below w.heap.size w w') : Row1 w' a n V := by
  refine ⟨h.max, ?_⟩
  rcases h.row with h0 | ⟨b, off, ha, hlt, hc⟩
  · exact .inl h0
  · exact .inr ⟨b, off, ha, Nat.lt_of_lt_of_le hlt hb.size, fun i hi => (hb.cell (p := ⟨b, off + i, none⟩) hlt).trans (hc i hi)⟩


/-- Same, of two slices of texts: x, y: the texts. -/
def sameB (x y : List (List UInt8)) : Bool := x == y

set_option maxHeartbeats 1000000 in
set_option maxRecDepth 100000 in
theorem same_any (a b : Option Addr) (la ca lb cb : Nat) (x y : List (List UInt8)) (w : World) (hla : x.length = la) (hlb : y.length = lb)
    (ha : Row1 w a la (fun i => tx (x.getD i []))) (hb : Row1 w b lb (fun i => tx (y.getD i []))) :
    Calls Tryd.prog 14 #[.slice a la ca, .slice b lb cb] w fun e w' => e = .returned (.bool (sameB x y)) ∧ ∃ n, w' = w.drewN n := by
  have ma := ha.max
  have mb := hb.max
  subst hla
  subst hlb
  by_cases hl : x.length = y.length
  · have hE : Hid (x.length = y.length) := hl
    have hne : ((x.length : Int) != (y.length : Int)) = false := by simp [hl]
    go_enter Tryd.func14, Tryd.ntmps14
    clear hl
    go_wp2
    go_loopw [5] (fun i wr => ∃ (k : Nat), k ≤ x.length ∧ i = .int .i64 (k : Int) ∧ Hid (x.take k = y.take k) ∧ ∃ n, wr = w.drewN n) (fun i _ => x.length - (intOf i).toNat)
    case atStart => exact ⟨0, by omega, rfl, rfl, 0, rfl⟩
    case round =>
      obtain ⟨k, hk, rfl, ht, n, rfl⟩ := hrel
      by_cases hlt : k < x.length
      · have hlt2 : k < y.length := by have := hE.out; omega
        obtain ⟨ba, oa, rfl, _, hca⟩ := ha.at hlt
        obtain ⟨bb, ob, rfl, _, hcb⟩ := hb.at hlt2
        have hgx : x.getD k [] = x[k] := by simp [List.getD, hlt]
        have hgy : y.getD k [] = y[k] := by simp [List.getD, hlt2]
        rw [hgx] at hca
        rw [hgy] at hcb
        unfold tx at hca hcb
        by_cases he : x[k] = y[k]
        · have ht2 : Hid (x.take (k + 1) = y.take (k + 1)) := by
            show _ = _
            rw [List.take_succ_eq_append_getElem hlt, List.take_succ_eq_append_getElem hlt2, ht.out, he]
          have hcmp : (x[k] == y[k]) = true := by simp [he]
          generalize x[k] = X at *
          generalize y[k] = Y at *
          clear ha hb hgx hgy he ht
          go_wp2
          go_quiet (fail)
          go_wp2
          go_roundw
          case rel => exact ⟨k + 1, by omega, by go_num, ht2, _, rfl⟩
          case measure => simp [intOf]; omega
        · have hfalse : Hid (sameB x y = false) := by
            show _ = _
            unfold sameB
            rw [beq_eq_false_iff_ne]
            intro e
            subst e
            exact he rfl
          have hcmp : (x[k] == y[k]) = false := by simp [he]
          generalize x[k] = X at *
          generalize y[k] = Y at *
          clear ha hb hgx hgy he ht
          go_wp2
          go_quiet (fail)
          go_wp2
          go_ret
          refine ⟨by rw [hfalse.out]; rfl, ?_⟩
          rw [World.drewN_drewN]
          exact ⟨_, rfl⟩
      · have htrue : Hid (sameB x y = true) := by
          show _ = _
          have h1 := ht.out
          have h2 := hE.out
          rw [List.take_of_length_le (by omega), List.take_of_length_le (by omega)] at h1
          unfold sameB
          rw [h1]; exact beq_self_eq_true _
        clear ht ha hb
        go_wp2
        go_ret
        exact ⟨by rw [htrue.out]; rfl, n, rfl⟩
  · have hfalse : Hid (sameB x y = false) := by
      show _ = _
      unfold sameB
      rw [beq_eq_false_iff_ne]
      intro e
      exact hl (by rw [e])
    have hne : ((x.length : Int) != (y.length : Int)) = true := by simp; omega
    clear hl ha hb
    go_enter Tryd.func14, Tryd.ntmps14
    go_wp2
    go_ret
    exact ⟨by rw [hfalse.out]; rfl, 0, rfl⟩

theorem sameB_refl (l : List (List UInt8)) : sameB l l = true := beq_self_eq_true _
end Go.Proofs.YtlgpkbcefaldoaaDoor

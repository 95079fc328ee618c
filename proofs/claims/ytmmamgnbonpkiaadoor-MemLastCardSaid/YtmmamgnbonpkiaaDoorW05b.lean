/- Layer 5: contracts of New, Len, Clone, TrailingZeros64, height, isValid. -/
import Derived.Test.YtmmamgnbonpkiaaDoorW05
import Derived.Test.YtmmamgnbonpkiaaDoorShelf
import Derived.WalkArith
import Derived.WalkKit
namespace Go.Proofs.YtmmamgnbonpkiaaDoor
open Go.RowKit Go.Maps Go.WideMaps
set_option linter.unusedVariables false

theorem drawn_below (w : World) (n : Nat) : Below w.heap.size w (w.drewN n) := below_drewN (Below.refl _ w) n

theorem clone_any (s : ByteArray) (w : World) (h : s.size ≤ 281474976710656) :
    Calls Tryd.prog 22 #[.string s] w fun e w' => e = .returned (.string s) ∧ Below w.heap.size w w' := by
  have hc := Sh.stringslite_Clone s w h
  go_enter Tryd.func22, Tryd.ntmps22
  go_wp2_with fail
  refine hc.mono ?_
  rintro e w1 ⟨rfl, hb⟩
  go_wp2
  go_ret
  exact ⟨rfl, hb⟩

theorem new_any (w : World) : Calls Tryd.prog 8 #[] w fun e w' => ∃ p, e = .returned (.pointer (some ⟨p, 0, none⟩)) ∧ TabAt w' p [] (fun k => w.heap.size ≤ k ∧ k < w'.heap.size) ∧ Below w.heap.size w w' := by
  go_enter Tryd.func8, Tryd.ntmps8
  go_wp2
  go_ret
  refine ⟨_, rfl, ⟨[], ⟨⟨_, heap_alloc_new _ _, rfl, fun j hj => ?_, rfl, rfl⟩, fun i h => absurd h (by simp), by simp, by simp, by simp⟩, rfl, by simp, List.Pairwise.nil⟩, (Below.refl _ w).alloc (Nat.le_refl _) _⟩
  have : ptrV (lkAt [] 0 j) = .pointer none := rfl
  rw [this]
  match j, hj with
  | 0, _ | 1, _ | 2, _ | 3, _ | 4, _ | 5, _ | 6, _ | 7, _ | 8, _ | 9, _ | 10, _ | 11, _ => rfl

theorem len_any {w : World} {p : Nat} {l : List PairS} {F : Nat → Prop} (h : TabAt w p l F) : Calls Tryd.prog 11 #[.pointer (some ⟨p, 0, none⟩)] w fun e w' => e = .returned (.tuple #[.int .i64 (l.length : Nat), .int .i64 (sizeP l : Nat)]) ∧ Below w.heap.size w w' := by
  obtain ⟨N, hN⟩ := h
  obtain ⟨c1, c2⟩ := SkipL.counts hN.sk
  clear hN
  go_enter Tryd.func11, Tryd.ntmps11
  go_wp2
  go_quiet (fail)
  go_wp2
  go_ret2
  exact ⟨rfl, drawn_below _ _⟩

theorem tz_key (y : Int) : ∃ i : Nat, i < 64 ∧ IntKind.u64.wrap y / 288230376151711744 = (i : Int) := by
  rw [IntKind.wrap_u64]
  have h1 : 0 ≤ y % 18446744073709551616 := by omega
  have h2 : y % 18446744073709551616 < 18446744073709551616 := by omega
  refine ⟨(y % 18446744073709551616 / 288230376151711744).toNat, by omega, by omega⟩
theorem tz_any {w : World} (hT : Tab64 w) (x : Int) : Calls Tryd.prog 30 #[.int .u64 x] w fun e w' => ∃ k : Nat, k ≤ 64 ∧ e = .returned (.int .i64 (k : Int)) ∧ w' = w := by
  by_cases hx : x = 0
  · subst hx
    go_enter Tryd.func30, Tryd.ntmps30
    go_wp2
    go_ret
    exact ⟨64, by decide, rfl, rfl⟩
  · have hx0 : (x == 0) = false := by simpa using hx
    obtain ⟨i, hi, key⟩ := tz_key (bits BinOp.and IntKind.u64 x (IntKind.u64.wrap (-x)) * 285870213051353865)
    obtain ⟨k, hk, hc⟩ := hT.cell hi
    have hk64 : k ≤ 64 := by omega
    have HK := Lib.hid hk64
    clear hk64 hT
    go_enter Tryd.func30, Tryd.ntmps30
    go_wp2_with (simp only [key])
    go_ret
    exact ⟨k, HK.out, rfl, rfl⟩

/-- On how many levels a node is: some, 12 at the most. -/
theorem height_any {w : World} (hT : Tab64 w) (n : Int) : Calls Tryd.prog 28 #[.int .i64 n] w fun e w' => ∃ k : Nat, 1 ≤ k ∧ k ≤ 12 ∧ e = .returned (.int .i64 (k : Int)) ∧ w' = w := by
  have HT := fun x => tz_any hT x
  go_enter Tryd.func28, Tryd.ntmps28
  go_wp2_with fail
  refine (HT _).mono ?_
  rintro e w1 ⟨k, hk, rfl, rfl⟩
  go_wp2
  go_ret
  refine ⟨min (1 + k / 2) 12, by omega, by omega, ?_, rfl⟩
  have : (min (1 + (k : Int) / 2) 12) = ((min (1 + k / 2) 12 : Nat) : Int) := by omega
  rw [this]
  rfl

def validP (x : PairS) : Bool := !x.key.toList.isEmpty && (x.val.toList.isEmpty || !x.gone)
theorem isValid_any (x : PairS) (w : World) : Calls Tryd.prog 19 #[x.val'] w fun e w' => e = .returned (.bool (validP x)) ∧ Below w.heap.size w w' := by
  obtain ⟨k, v, g⟩ := x
  show Calls Tryd.prog 19 #[.agg #[.string k, .string v, .bool g]] w _
  generalize hN : validP ⟨k, v, g⟩ = N
  unfold validP at hN
  simp only at hN
  have HN := Lib.hid hN
  clear hN
  cases hk : k.toList.isEmpty <;> cases hv : v.toList.isEmpty <;> cases g
  all_goals
    have HX := HN.out
    rw [hk, hv] at HX
    simp only [Bool.not_true, Bool.not_false, Bool.and_true, Bool.and_false, Bool.true_and, Bool.false_and, Bool.or_true, Bool.or_false, Bool.true_or, Bool.false_or] at HX
    subst HX
    go_enter Tryd.func19, Tryd.ntmps19
    go_wp2
    go_ret
    exact ⟨rfl, (Below.refl _ w).alloc (Nat.le_refl _) _⟩
end Go.Proofs.YtmmamgnbonpkiaaDoor

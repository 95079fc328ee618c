/- Layer 2: contracts of Same and of awake. -/
import Derived.Test.YtflljnhkjkmcgaaW02e
import Derived.Test.YtflljnhkjkmcgaaM01t
namespace Go.Proofs.Ytflljnhkjkmcgaa
open Go.RowKit
set_option linter.unusedVariables false

/-- Same, of two slices of texts: x, y: the texts. -/
def sameB (x y : List (List UInt8)) : Bool := x == y

set_option maxHeartbeats 1000000 in
set_option maxRecDepth 100000 in
theorem same_any (a b : Option Addr) (la ca lb cb : Nat) (x y : List (List UInt8)) (w : World) (hla : x.length = la) (hlb : y.length = lb)
    (ha : Row1 w a la (fun i => tx (x.getD i []))) (hb : Row1 w b lb (fun i => tx (y.getD i []))) :
    Calls Try.prog 17 #[.slice a la ca, .slice b lb cb] w fun e w' => e = .returned (.bool (sameB x y)) ∧ ∃ n, w' = w.drewN n := by
  have ma := ha.max
  have mb := hb.max
  subst hla
  subst hlb
  by_cases hl : x.length = y.length
  · have hE : Hid (x.length = y.length) := hl
    have hne : ((x.length : Int) != (y.length : Int)) = false := by simp [hl]
    go_enter Try.func17, Try.ntmps17
    clear hl
    go_wp2
    go_loopw [5] (fun i wr => ∃ (k : Nat), k ≤ x.length ∧ i = .int .i64 (k : Int) ∧ Hid (x.take k = y.take k) ∧ ∃ n, wr = w.drewN n) (fun i _ => x.length - (intOf i).toNat)
    case atStart => exact ⟨0, by omega, rfl, rfl, 0, rfl⟩
    case round =>
      obtain ⟨k, hk, rfl, ht, n, rfl⟩ := hrel
      by_cases hlt : k < x.length
      · have hlt2 : k < y.length := by have := hE.out; omega
        obtain ⟨ba, oa, rfl, _, hca⟩ := ha.at hlt
        obtain ⟨bb, ob, rfl, _, hcb⟩ := hb.at hlt2
        have hgx : x.getD k [] = x[k] := by simp [List.getD, hlt]
        have hgy : y.getD k [] = y[k] := by simp [List.getD, hlt2]
        rw [hgx] at hca
        rw [hgy] at hcb
        unfold tx at hca hcb
        by_cases he : x[k] = y[k]
        · have ht2 : Hid (x.take (k + 1) = y.take (k + 1)) := by
            show _ = _
            rw [List.take_succ_eq_append_getElem hlt, List.take_succ_eq_append_getElem hlt2, ht.out, he]
          have hcmp : (x[k] == y[k]) = true := by simp [he]
          generalize x[k] = X at *
          generalize y[k] = Y at *
          clear ha hb hgx hgy he ht
          go_wp2
          go_quiet (fail)
          go_wp2
          go_roundw
          case rel => exact ⟨k + 1, by omega, by go_num, ht2, _, rfl⟩
          case measure => simp [intOf]; omega
        · have hfalse : Hid (sameB x y = false) := by
            show _ = _
            unfold sameB
            rw [beq_eq_false_iff_ne]
            intro e
            subst e
            exact he rfl
          have hcmp : (x[k] == y[k]) = false := by simp [he]
          generalize x[k] = X at *
          generalize y[k] = Y at *
          clear ha hb hgx hgy he ht
          go_wp2
          go_quiet (fail)
          go_wp2
          go_ret
          refine ⟨by rw [hfalse.out]; rfl, ?_⟩
          rw [World.drewN_drewN]
          exact ⟨_, rfl⟩
      · have htrue : Hid (sameB x y = true) := by
          show _ = _
          have h1 := ht.out
          have h2 := hE.out
          rw [List.take_of_length_le (by omega), List.take_of_length_le (by omega)] at h1
          unfold sameB
          rw [h1]; exact beq_self_eq_true _
        clear ht ha hb
        go_wp2
        go_ret
        exact ⟨by rw [htrue.out]; rfl, n, rfl⟩
  · have hfalse : Hid (sameB x y = false) := by
      show _ = _
      unfold sameB
      rw [beq_eq_false_iff_ne]
      intro e
      exact hl (by rw [e])
    have hne : ((x.length : Int) != (y.length : Int)) = true := by simp; omega
    clear hl ha hb
    go_enter Try.func17, Try.ntmps17
    go_wp2
    go_ret
    exact ⟨by rw [hfalse.out]; rfl, 0, rfl⟩

theorem frame_a : frameL [97] = [1, 232, 183, 190, 67, 97] := by
  rw [frameL, show putL ([97] : List UInt8).length = [1] from putL_lt (by decide)]
  decide +kernel

theorem wrap_a (w : World) : Calls Try.prog 9 #[.string ⟨#[97]⟩] w fun e w' => e = .returned (.tuple #[.string ⟨#[1, 232, 183, 190, 67, 97]⟩, .int .i64 0]) ∧ Below w.heap.size w w' := by
  have h := wrap_any ⟨#[97]⟩ (by decide) w
  rw [show (⟨#[97]⟩ : ByteArray).data.toList = [97] from rfl, frame_a] at h
  exact h

theorem next_ax (w : World) : Calls Try.prog 13 #[.string ⟨#[1, 232, 183, 190, 67, 97, 120]⟩] w fun e w' => e = .returned (.tuple #[.string ⟨#[97]⟩, .string ⟨#[120]⟩, .int .i64 0]) ∧ Below w.heap.size w w' := by
  refine (next_any ⟨#[1, 232, 183, 190, 67, 97, 120]⟩ (by decide) w).mono ?_
  rintro e w1 ⟨he, hb⟩
  have hn := nextL_frame (l := [97]) (by decide) [120]
  rw [frame_a] at hn
  refine ⟨?_, hb⟩
  rcases he with ⟨a, r, h, rfl⟩ | ⟨k, hk, h, rfl⟩
  · have h2 := h.symm.trans hn
    simp only [Prod.mk.injEq, true_and] at h2
    obtain ⟨h3, h4⟩ := h2
    rw [show a = ⟨#[97]⟩ from ByteArray.ext (Array.toList_inj.1 h3), show r = ⟨#[120]⟩ from ByteArray.ext (Array.toList_inj.1 h4)]
  · have h2 := h.symm.trans hn
    simp only [Prod.mk.injEq] at h2
    omega

theorem sum_9 (w : World) : Calls Try.prog 11 #[.string ⟨#[49, 50, 51, 52, 53, 54, 55, 56, 57]⟩] w fun e w' => e = .returned (.int .u32 3421780262) ∧ w = w' := by
  have h := sum_any ⟨#[49, 50, 51, 52, 53, 54, 55, 56, 57]⟩ (by decide) w
  rw [show crcL (⟨#[49, 50, 51, 52, 53, 54, 55, 56, 57]⟩ : ByteArray).data.toList = 3421780262 by decide +kernel] at h
  exact h

set_option maxHeartbeats 400000 in
set_option maxRecDepth 100000 in
theorem awake_any (w : World) :
    Calls Try.prog 8 #[] w fun e w' => e = .returned (.bool true) ∧ Below w.heap.size w w' := by
  go_enter Try.func8, Try.ntmps8
  go_wp2_with fail
  refine (wrap_a _).mono ?_
  rintro e w1 ⟨rfl, hb1⟩
  go_wp2_with fail
  refine (next_ax _).mono ?_
  rintro e w2 ⟨rfl, hb2⟩
  go_wp2_with fail
  refine (sum_9 _).mono ?_
  rintro e w3 ⟨rfl, rfl⟩
  go_wp2
  go_ret
  exact ⟨rfl, below_next hb1 (Nat.le_refl _) hb2⟩
end Go.Proofs.Ytflljnhkjkmcgaa

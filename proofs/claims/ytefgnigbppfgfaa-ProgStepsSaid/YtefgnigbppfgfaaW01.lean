/- Layer 1: contracts of vary.Put, vary.Fixed, vary.Get, vary.Text and of the reference's. -/
import Derived.Test.YtefgnigbppfgfaaW00
namespace Go.Proofs.Ytefgnigbppfgfaa
open Go.RowKit
set_option linter.unusedVariables false

set_option maxHeartbeats 400000 in
set_option maxRecDepth 100000 in
theorem put_any (a : Nat) (h1 : U64 a) (w : World) :
    Calls Try.prog 30 #[.int .u64 (a : Int)] w fun e w' => e = .returned (.string ⟨(putL a).toArray⟩) ∧ Below w.heap.size w w' := by
  obtain ⟨i0, hi, hz0, hz1, hz2⟩ := info_parts infoU8
  go_enter Try.func30, Try.ntmps30
  go_wp2
  go_loopw [0, 3] (fun n v wr => ∃ (m : Nat) (l : List UInt8), U64 m ∧ n = .int .u64 m ∧ wr.ownsRow w.heap.size 5 1 v l.length (l.map bv) ∧ Hid (l ++ putL m = putL a) ∧ Below w.heap.size w wr)
    (fun n _ _ => (intOf n).toNat)
  case atStart => exact ⟨a, [], h1, rfl, World.ownsRow_nil _ _ _ _, rfl, Below.refl _ _⟩
  case round =>
    obtain ⟨m, l, hm, rfl, hown, hl, hb⟩ := hrel
    have hlen : l.length ≤ 9 := by
      have h2 := putL_len10 h1
      have h3 := congrArg List.length hl.out
      have h4 := putL_pos m
      rw [List.length_append] at h3
      omega
    have hsz := hb.size
    by_cases h128 : m < 128
    · go_wp2_with (first
        | (at_builtin; refine wpList_append_own _ rfl (.tmp 14) (.tmp 17) 64 rfl w.heap.size 5 i0 (.int .u8 0) 1 1 Try.underlying64 hi hz0 hz1 hz2 rfl (by decide) _ _ _ rfl (hown.alloc _) ⟨wr.heap.size, 0, none⟩ 1 1 [.int .u8 m] rfl rfl ?c1 ?c2 ?c3 ?c4 ?c5 ?_))
      case c1 => exact new_one _ _ _
      case c2 => exact one_new
      case c3 => unfold maxLen; omega
      case c4 => omega
      case c5 => simp; omega
      intro v' w1 hown' hgrow _
      have hown2 : w1.ownsRow w.heap.size 5 1 v' (l ++ putL m).length ((l ++ putL m).map bv) := by
        rw [putL_lt h128]
        simpa [bv, Nat.mod_eq_of_lt (show m < 256 by omega)] using hown'
      rw [hl.out] at hown2
      have hcv := conv_own hown2
      have hb1 := (hb.alloc hsz _).grown hgrow (by simp; omega) (fun k hk => (hown.lt k hk).1)
      clear hown hown' hown2 hgrow hb hi
      go_wp2
      go_ret
      exact ⟨rfl, hb1⟩
    · go_wp2_with (first
        | (at_builtin; refine wpList_append_own _ rfl (.tmp 6) (.tmp 10) 64 rfl w.heap.size 5 i0 (.int .u8 0) 1 1 Try.underlying64 hi hz0 hz1 hz2 rfl (by decide) _ _ _ rfl (hown.alloc _) ⟨wr.heap.size, 0, none⟩ 1 1 [.int .u8 (bits BinOp.or IntKind.u8 (↑m % 256) 128)] rfl rfl ?d1 ?d2 ?d3 ?d4 ?d5 ?_))
      case d1 => exact new_one _ _ _
      case d2 => exact one_new
      case d3 => unfold maxLen; omega
      case d4 => omega
      case d5 => simp; omega
      intro v' w1 hown' hgrow _
      have hown2 : w1.ownsRow w.heap.size 5 1 v' (l ++ [UInt8.ofNat (m % 128 + 128)]).length ((l ++ [UInt8.ofNat (m % 128 + 128)]).map bv) := by
        rw [u8_or128'] at hown'
        simpa [bv] using hown'
      have hl2 : Hid ((l ++ [UInt8.ofNat (m % 128 + 128)]) ++ putL (m / 128) = putL a) := by
        have := hl.out
        rw [putL_ge (by omega)] at this
        show _ = _
        rw [← this]; simp
      have hb1 := (hb.alloc hsz _).grown hgrow (by simp; omega) (fun k hk => (hown.lt k hk).1)
      clear hown hown' hgrow hb hi hl
      go_wp2
      go_roundw
      case rel => exact ⟨m / 128, _, hm.le (by omega), by simp, hown2, hl2, hb1⟩
      case measure => simp [intOf]; omega
end Go.Proofs.Ytefgnigbppfgfaa

/- Layer 2: contracts of shiftByte and Sum. -/
import Derived.Test.YtlgpkbcefaldoaaDoorW01c
import Derived.Test.YtlgpkbcefaldoaaDoorM02
namespace Go.Proofs.YtlgpkbcefaldoaaDoor
open Go.RowKit
set_option linter.unusedVariables false

theorem step_walk {c : Nat} (h : U32 c) : bits .xor .u32 ((c : Int) / 2) (bits .and .u32 3988292384 (-bits .and .u32 (c : Int) 1 % 4294967296)) = (stepC c : Nat) := by
  have hc := h.out
  have e1 : bits .and .u32 (c : Int) 1 = ((c % 2 : Nat) : Int) := by
    have := u32_and_nat c 1 hc (by omega)
    rw [Nat.and_one_is_mod] at this
    exact this
  have e2 : ((c : Int) / 2) = ((c / 2 : Nat) : Int) := by simp
  rw [e1, e2]
  unfold stepC
  by_cases h1 : c % 2 = 1
  · rw [if_pos h1, h1, show bits .and .u32 3988292384 (-((1 : Nat) : Int) % 4294967296) = ((3988292384 : Nat) : Int) from by decide, u32_xor_nat _ _ (by omega) (by omega)]
  · rw [if_neg h1, show c % 2 = 0 by omega, show bits .and .u32 3988292384 (-((0 : Nat) : Int) % 4294967296) = ((0 : Nat) : Int) from by decide, u32_xor_nat _ _ (by omega) (by omega), Nat.xor_zero]

set_option maxHeartbeats 400000 in
set_option maxRecDepth 100000 in
theorem shift_any (c : Nat) (h : U32 c) (w : World) :
    Calls Tryd.prog 60 #[.int .u32 (c : Int)] w fun e w' => e = .returned (.int .u32 (stepsC 8 c : Nat)) ∧ w = w' := by
  go_enter Tryd.func60, Tryd.ntmps60
  go_wp2
  go_loop [0, 3] (fun c' i => ∃ (k : Nat), k ≤ 8 ∧ i = .int .i64 (k : Int) ∧ c' = .int .u32 (stepsC k c : Nat)) (fun _ i => 8 - (intOf i).toNat)
  case atStart => exact ⟨0, by omega, rfl, rfl⟩
  case round =>
    obtain ⟨k, hk, rfl, rfl⟩ := hrel
    by_cases hlt : k < 8
    · have hs := Lib.hid (step_walk (stepsC_32 k h))
      have hb := (stepsC_32 k h).out
      go_wp2
      go_round
      case rel => exact ⟨k + 1, by omega, by go_num, by rw [hs.out]; rfl⟩
      case measure => simp [intOf]; omega
    · obtain rfl : k = 8 := by omega
      go_wp2
      go_ret
      exact ⟨rfl, rfl⟩

theorem not32 {c : Nat} (h : U32 c) : bits .xor .u32 IntKind.u32.max (c : Int) = ((4294967295 - c : Nat) : Int) := by
  have hc := h.out
  show IntKind.u32.wrap ((BitVec.ofInt 32 IntKind.u32.max ^^^ BitVec.ofInt 32 (c : Int)).toNat : Int) = _
  rw [show BitVec.ofInt 32 IntKind.u32.max = BitVec.allOnes 32 from by decide, BitVec.allOnes_xor, BitVec.toNat_not, ofInt_u32 c hc, IntKind.wrap_u32]
  omega

theorem take_all (s : ByteArray) : s.data.toList.take s.size = s.data.toList := List.take_of_length_le (by simp)

theorem sum_not (s : ByteArray) : bits .xor .u32 IntKind.u32.max (crcS (s.data.toList.take s.size) : Int) = (crcL s.data.toList : Nat) := by
  rw [take_all]; exact not32 (crcS_32 _)

theorem sum_sub (s : ByteArray) : (4294967295 - (crcS (s.data.toList.take s.size) : Int)) = (crcL s.data.toList : Nat) := by
  have := (crcS_32 s.data.toList).out
  rw [take_all, crcL]; omega

set_option maxHeartbeats 400000 in
set_option maxRecDepth 100000 in
theorem sum_any (s : ByteArray) (hs : s.size ≤ maxLen) (w : World) :
    Calls Tryd.prog 46 #[.string s] w fun e w' => e = .returned (.int .u32 (crcL s.data.toList : Nat)) ∧ w = w' := by
  unfold maxLen at hs
  have h32 := crcS_32
  go_enter Tryd.func46, Tryd.ntmps46
  go_wp2
  go_loop [3, 7] (fun c i => ∃ (k : Nat), k ≤ s.size ∧ i = .int .i64 (k : Int) ∧ c = .int .u32 (crcS (s.data.toList.take k) : Nat)) (fun _ i => s.size - (intOf i).toNat)
  case atStart => exact ⟨0, by omega, rfl, rfl⟩
  case round =>
    obtain ⟨k, hk, rfl, rfl⟩ := hrel
    by_cases hlt : k < s.size
    · have hx := Lib.hid (crcS_take (l := s.data.toList) (k := k) (by simpa using hlt))
      have hb := Lib.hid (h32 (s.data.toList.take k))
      have hc := UInt8.toNat_lt s[k]
      have he : bits .xor .u32 (crcS (s.data.toList.take k) : Int) (s[k].toNat : Int) = ((crcS (s.data.toList.take k) ^^^ s[k].toNat : Nat) : Int) := u32_xor_nat _ _ hb.out.out (by omega)
      have hu : U32 (crcS (s.data.toList.take k) ^^^ s[k].toNat) := xor32 hb.out.out (by omega)
      go_wp2_with fail
      refine (shift_any _ hu _).mono ?_
      rintro e w' ⟨rfl, rfl⟩
      go_wp2
      go_round
      case rel => exact ⟨k + 1, by omega, by go_num, by rw [hx.out]; rfl⟩
      case measure => simp [intOf]; omega
    · obtain rfl : k = s.size := by omega
      have hn := Lib.hid (sum_not s)
      go_wp2
      go_ret
      exact ⟨by rw [← hn.out]; rfl, rfl⟩
end Go.Proofs.YtlgpkbcefaldoaaDoor

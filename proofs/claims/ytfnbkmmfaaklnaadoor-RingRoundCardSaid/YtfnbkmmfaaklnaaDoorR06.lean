/- Layer 6: contracts of the reference's Hash. -/
import Derived.Test.YtfnbkmmfaaklnaaDoorWT
import Derived.Test.YtfnbkmmfaaklnaaDoorM06
import Derived.WalkArith
import Derived.WalkKit
import Derived.Laws.BitsAllLaws
import Derived.Lib.Hide
namespace Go.Proofs.YtfnbkmmfaaklnaaDoor
open Go.RowKit
set_option linter.unusedVariables false

theorem and_all (x : Nat) (h : x < 18446744073709551616) : bits .and .u64 (x : Int) 4294967295 = ((x % 4294967296 : Nat) : Int) := by
  have h1 := u64_and_nat x 4294967295 h (by omega)
  rw [show (4294967295 : Nat) = 2 ^ 32 - 1 by decide, Nat.and_two_pow_sub_one_eq_mod] at h1
  exact h1
theorem wrap64u (x : Nat) (h : x < 18446744073709551616) : IntKind.u64.wrap (x : Int) = (x : Int) := by
  rw [IntKind.wrap_u64]; omega
theorem stepA_go (a : Nat) (c : UInt8) (ha : a < 4294967296) : bits .and .u64 (IntKind.u64.wrap (bits .xor .u64 (a : Int) (c.toNat : Int) * 16777619)) 4294967295 = ((stepA a c : Nat) : Int) := by
  have hc := UInt8.toNat_lt c
  have hx := xor32b ha (show c.toNat < 4294967296 by omega)
  rw [u64_xor_nat a c.toNat (by omega) (by omega)]
  unfold stepA
  generalize a ^^^ c.toNat = x at *
  rw [show ((x : Int) * 16777619) = ((x * 16777619 : Nat) : Int) by omega, wrap64u _ (by omega), and_all _ (by omega)]
theorem tail_go (z : Nat) (hz : z < 4294967296) : bits .xor .u64 (z : Int) (IntKind.u64.wrap ((z : Int).tdiv 8192)) = ((z ^^^ (z / 8192) : Nat) : Int) := by
  have e3 : ((z : Int).tdiv 8192) = ((z / 8192 : Nat) : Int) := by rw [Int.tdiv_eq_ediv_of_nonneg (by omega)]; omega
  rw [e3, wrap64u _ (by omega), u64_xor_nat z (z / 8192) (by omega) (by omega)]
theorem stepB_go (b : Nat) (c : UInt8) (hb : b < 4294967296) :
    bits .xor .u64 (bits .and .u64 (IntKind.u64.wrap (bits .and .u64 ((b : Int) + (c.toNat : Int)) 4294967295 * 2246822507)) 4294967295)
      (IntKind.u64.wrap ((bits .and .u64 (IntKind.u64.wrap (bits .and .u64 ((b : Int) + (c.toNat : Int)) 4294967295 * 2246822507)) 4294967295).tdiv 8192)) = ((stepB b c : Nat) : Int) := by
  have hc := UInt8.toNat_lt c
  unfold stepB
  have e1 : bits .and .u64 ((b : Int) + (c.toNat : Int)) 4294967295 = (((b + c.toNat) % 4294967296 : Nat) : Int) := by
    have := and_all (b + c.toNat) (by omega)
    rwa [Int.natCast_add] at this
  have e2 : (b + c.toNat) % 4294967296 * 2246822507 % 4294967296 = (b + c.toNat) * 2246822507 % 4294967296 := by omega
  have hm : (b + c.toNat) % 4294967296 < 4294967296 := Nat.mod_lt _ (by omega)
  rw [e1]
  generalize hy : (b + c.toNat) % 4294967296 = y at *
  rw [show ((y : Int) * 2246822507) = ((y * 2246822507 : Nat) : Int) by omega, wrap64u _ (by omega), and_all _ (by omega), e2]
  have hz : (b + c.toNat) * 2246822507 % 4294967296 < 4294967296 := Nat.mod_lt _ (by omega)
  exact tail_go _ hz
theorem low32 (a : Nat) (h : a < 4294967296) : IntKind.u32.wrap (a : Int) = (a : Int) := by
  rw [IntKind.wrap_u32]; omega
theorem or_one (b : Nat) (h : b < 4294967296) : bits .or .u64 (b : Int) 1 % 4294967296 = ((b ||| 1 : Nat) : Int) := by
  have h1 : bits .or .u64 (b : Int) 1 = ((b ||| 1 : Nat) : Int) := u64_or_nat b 1 (by omega) (by omega)
  have h2 : b ||| 1 < 4294967296 := Nat.or_lt_two_pow (n := 32) h (by omega)
  rw [h1]
  omega

set_option maxHeartbeats 1000000 in
set_option maxRecDepth 100000 in
theorem rhash_any (s : ByteArray) (hs : s.size ≤ maxLen) (w : World) :
    Calls Tryd.prog 18 #[.string s] w fun e w' => e = .returned (.tuple #[.int .u32 (hashA s : Nat), .int .u32 (hashB s : Nat)]) ∧ w' = w := by
  unfold maxLen at hs
  have hAB := Lib.hid (And.intro foldA_lt foldB_lt)
  go_enter Tryd.func18, Tryd.ntmps18
  go_wp2
  go_loop [4, 5, 6] (fun a b i => ∃ (k : Nat), k ≤ s.size ∧ i = .int .i64 (k : Int) ∧ a = .int .u64 (foldA (s.data.toList.take k) : Nat) ∧ b = .int .u64 (foldB (s.data.toList.take k) : Nat)) (fun _ _ i => s.size - (intOf i).toNat)
  case atStart => exact ⟨0, by omega, rfl, by show _ = Value.int .u64 (startA : Nat); rw [startA_eq]; rfl, by show _ = Value.int .u64 (startB : Nat); rw [startB_eq]; rfl⟩
  case round =>
    obtain ⟨k, hk, rfl, rfl, rfl⟩ := hrel
    by_cases hlt : k < s.size
    · have ha := hAB.out.1 (s.data.toList.take k)
      have hb := hAB.out.2 (s.data.toList.take k)
      have hc := UInt8.toNat_lt s[k]
      have HA := Lib.hid (foldA_next (l := s.data.toList) (k := k) (by simpa using hlt))
      have HB := Lib.hid (foldB_next (l := s.data.toList) (k := k) (by simpa using hlt))
      generalize foldA (s.data.toList.take k) = a at *
      generalize foldB (s.data.toList.take k) = b at *
      have hA := stepA_go a s[k] ha
      have hB := stepB_go b s[k] hb
      have HAA := Lib.hid hA
      have HBB := Lib.hid hB
      clear hA hB
      go_wp2
      go_round
      case rel => exact ⟨k + 1, by omega, by go_num, by rw [HA.out]; exact congrArg (Value.int .u64) HAA.out, by rw [HB.out]; exact congrArg (Value.int .u64) HBB.out⟩
      case measure => simp [intOf]; omega
    · obtain rfl : k = s.size := by omega
      have e : s.data.toList.take s.size = s.data.toList := List.take_of_length_le (by simp)
      rw [e]
      have ha := hAB.out.1 s.data.toList
      have hb := hAB.out.2 s.data.toList
      have HL := Lib.hid (low32 _ ha)
      have HO := Lib.hid (or_one _ hb)
      have HE : Hid (hashA s = foldA s.data.toList ∧ hashB s = foldB s.data.toList ||| 1) := ⟨by unfold hashA; rfl, by unfold hashB; rfl⟩
      generalize foldA s.data.toList = a at *
      generalize foldB s.data.toList = b at *
      go_wp2
      go_ret2
      exact ⟨by rw [HE.out.1, HE.out.2, ← HO.out]; rfl, rfl⟩
end Go.Proofs.YtfnbkmmfaaklnaaDoor

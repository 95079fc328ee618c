/- Layer 6: the contract of the program's Hash. -/
import Derived.Test.YtfnbkmmfaaklnaaDoorR06
namespace Go.Proofs.YtfnbkmmfaaklnaaDoor
open Go.RowKit
set_option linter.unusedVariables false

theorem stepA_run (a : Nat) (c : UInt8) (ha : a < 4294967296) : bits .xor .u32 (a : Int) (c.toNat : Int) * 16777619 % 4294967296 = ((stepA a c : Nat) : Int) := by
  have hc := UInt8.toNat_lt c
  rw [u32_xor_nat a c.toNat ha (by omega)]
  unfold stepA
  omega
theorem stepB_run (b : Nat) (c : UInt8) (hb : b < 4294967296) :
    bits .xor .u32 (((b : Int) + (c.toNat : Int)) % 4294967296 * 2246822507 % 4294967296) (((b : Int) + (c.toNat : Int)) % 4294967296 * 2246822507 % 4294967296 / 8192) = ((stepB b c : Nat) : Int) := by
  have hc := UInt8.toNat_lt c
  have e1 : (((b : Int) + (c.toNat : Int)) % 4294967296 * 2246822507 % 4294967296) = (((b + c.toNat) * 2246822507 % 4294967296 : Nat) : Int) := by omega
  have e2 : (((b + c.toNat) * 2246822507 % 4294967296 : Nat) : Int) / 8192 = (((b + c.toNat) * 2246822507 % 4294967296 / 8192 : Nat) : Int) := by omega
  unfold stepB
  rw [e1, e2]
  exact u32_xor_nat _ _ (Nat.mod_lt _ (by omega)) (by omega)

set_option maxHeartbeats 1000000 in
set_option maxRecDepth 100000 in
theorem hash_any (s : ByteArray) (hs : s.size ≤ maxLen) (w : World) :
    Calls Tryd.prog 17 #[.string s] w fun e w' => e = .returned (.tuple #[.int .u32 (hashA s : Nat), .int .u32 (hashB s : Nat)]) ∧ w' = w := by
  unfold maxLen at hs
  have hAB := Lib.hid (And.intro foldA_lt foldB_lt)
  go_enter Tryd.func17, Tryd.ntmps17
  go_wp2
  go_loop [4, 5, 10] (fun a b i => ∃ (k : Nat), k ≤ s.size ∧ i = .int .i64 (k : Int) ∧ a = .int .u32 (foldA (s.data.toList.take k) : Nat) ∧ b = .int .u32 (foldB (s.data.toList.take k) : Nat)) (fun _ _ i => s.size - (intOf i).toNat)
  case atStart => exact ⟨0, by omega, rfl, by show _ = Value.int .u32 (startA : Nat); rw [startA_eq]; rfl, by show _ = Value.int .u32 (startB : Nat); rw [startB_eq]; rfl⟩
  case round =>
    obtain ⟨k, hk, rfl, rfl, rfl⟩ := hrel
    by_cases hlt : k < s.size
    · have ha := hAB.out.1 (s.data.toList.take k)
      have hb := hAB.out.2 (s.data.toList.take k)
      have hc := UInt8.toNat_lt s[k]
      have HA := Lib.hid (foldA_next (l := s.data.toList) (k := k) (by simpa using hlt))
      have HB := Lib.hid (foldB_next (l := s.data.toList) (k := k) (by simpa using hlt))
      generalize foldA (s.data.toList.take k) = a at *
      generalize foldB (s.data.toList.take k) = b at *
      go_wp2
      go_round
      case rel => exact ⟨k + 1, by omega, by go_num, by rw [HA.out]; exact congrArg (Value.int .u32) (stepA_run a _ ha), by rw [HB.out]; exact congrArg (Value.int .u32) (stepB_run b _ hb)⟩
      case measure => simp [intOf]; omega
    · obtain rfl : k = s.size := by omega
      have e : s.data.toList.take s.size = s.data.toList := List.take_of_length_le (by simp)
      rw [e]
      have ha := hAB.out.1 s.data.toList
      have hb := hAB.out.2 s.data.toList
      have HO : Hid (bits .or .u32 (foldB s.data.toList : Nat) 1 = ((foldB s.data.toList ||| 1 : Nat) : Int)) := u32_or_nat _ 1 hb (by omega)
      have HE : Hid (hashA s = foldA s.data.toList ∧ hashB s = foldB s.data.toList ||| 1) := ⟨by unfold hashA; rfl, by unfold hashB; rfl⟩
      generalize foldA s.data.toList = a at *
      generalize foldB s.data.toList = b at *
      go_wp2
      go_ret2
      exact ⟨by rw [HE.out.1, HE.out.2, ← HO.out]; rfl, rfl⟩
end Go.Proofs.YtfnbkmmfaaklnaaDoor

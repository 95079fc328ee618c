/- Layer 1: the contract of the reference's Get. -/
import Derived.Test.YtefgnigbppfgfaaR01
import Derived.Deep.QuietTactic
import Derived.BigQuiet
import Derived.Deep.RegionWith
namespace Go.Proofs.Ytefgnigbppfgfaa
open Go.RowKit
set_option linter.unusedVariables false

set_option maxHeartbeats 400000 in
set_option maxRecDepth 100000 in
theorem rget_any (s : ByteArray) (hs : s.size ≤ maxLen) (w : World) :
    Calls Try.prog 47 #[.string s] w fun e w' => RGetEnd s e ∧ Below w.heap.size w w' := by
  unfold maxLen at hs
  go_enter Try.func47, Try.ntmps47
  go_wp2
  go_loopw [4, 5] (fun n i wr => ∃ (k : Nat) (A : Int), k ≤ 10 ∧ k ≤ s.size ∧ i = .int .i64 (k : Int) ∧ n = .int .u64 A ∧ RGetRel s k A ∧ Below w.heap.size w wr) (fun _ i _ => 10 - (intOf i).toNat)
  case atStart => exact ⟨0, 0, by omega, by omega, rfl, rfl, rgetRel_zero s, Below.refl _ _⟩
  case round =>
    obtain ⟨k, A, hk, hks, rfl, rfl, hr, hb⟩ := hrel
    by_cases hlt : k < s.size
    · by_cases h10 : k < 10
      · obtain ⟨acc, rfl, hacc, hget, hinv⟩ := hr.yes h10
        by_cases h128 : s[k].toNat < 128
        · obtain ⟨x, hx, hx64, hyes, hno⟩ := rget_or (l := s.data.toList) (by simpa using hlt) h10 h128 hacc hinv
          simp only [show s.data.toList[k] = s[k] from rfl] at hx hyes hno
          by_cases hm : mayLast k s[k] = true
          · have HG := Lib.hid (get_hit hlt h10 h128 hm hget)
            have hcmp : (putL x == (s.extract 0 (k + 1)).toList) = true := by
              rw [Lib.toList_data, extract_take, (hyes hm).2]; simp
            have hxe := (hyes hm).1
            have hval : Hid ((x : Int) = ((acc + s[k].toNat % 128 * 128 ^ k : Nat) : Int)) := by show _ = _; rw [hxe]
            clear hyes hno hinv hget hr hacc hm hxe
            have q1 : IntKind.i64.wrap ((k : Int) + 1) = (k : Int) + 1 := IntWalk.i64_in _ ⟨by omega, by omega⟩
            have q2 : (0 : Int) ≤ (k : Int) + 1 := by omega
            have q3 : ((k : Int) + 1).toNat = k + 1 := by omega
            have q4 : (k : Int) + 1 ≤ (s.size : Int) := by omega
            have q5 : k + 1 ≤ s.size := by omega
            go_wp2_with fail
            go_region_with (go_at_call 34; refine (rput_any _ hx64 _).mono ?_; rintro e w1 ⟨rfl, hb1⟩)
            all_goals go_wp2
            all_goals go_ret2
            all_goals refine ⟨.inl ⟨_, _, HG.out, by rw [← hval.out]; rfl⟩, ?_⟩
            all_goals exact hb.drew.trans (hb1.mono hb.size)
          · have hm' : mayLast k s[k] = false := by simpa using hm
            have HG := Lib.hid (get_not hlt h10 h128 hm' hget)
            have hcmp : (putL x == (s.extract 0 (k + 1)).toList) = false := by
              rw [Lib.toList_data, extract_take]; simpa using hno hm'
            clear hyes hno hinv hget hr hacc hm hm'
            have q1 : IntKind.i64.wrap ((k : Int) + 1) = (k : Int) + 1 := IntWalk.i64_in _ ⟨by omega, by omega⟩
            have q2 : (0 : Int) ≤ (k : Int) + 1 := by omega
            have q3 : ((k : Int) + 1).toNat = k + 1 := by omega
            have q4 : (k : Int) + 1 ≤ (s.size : Int) := by omega
            have q5 : k + 1 ≤ s.size := by omega
            go_wp2_with fail
            go_region_with (go_at_call 34; refine (rput_any _ hx64 _).mono ?_; rintro e w1 ⟨rfl, hb1⟩)
            all_goals go_wp2
            all_goals go_ret2
            all_goals refine ⟨.inr ⟨HG.out, rfl⟩, ?_⟩
            all_goals exact hb.drew.trans (hb1.mono hb.size)
        · have hn := rget_next hlt h10 h128 hacc hget hinv
          clear hacc hr hget hinv
          go_wp2
          go_roundw
          case rel => exact ⟨k + 1, _, by omega, by omega, by go_num, rfl, hn, hb⟩
          case measure => simp [intOf]; omega
      · have HG := Lib.hid (hr.no h10)
        clear hr
        go_wp2
        go_ret2
        exact ⟨.inr ⟨HG.out, rfl⟩, hb⟩
    · by_cases h10 : k < 10
      · obtain ⟨acc, rfl, hacc, hget, hinv⟩ := hr.yes h10
        have HG := Lib.hid (get_end hlt h10 hget)
        clear hr hacc hget hinv
        go_wp2
        go_ret2
        exact ⟨.inr ⟨HG.out, rfl⟩, hb⟩
      · have HG := Lib.hid (hr.no h10)
        clear hr
        go_wp2
        go_ret2
        exact ⟨.inr ⟨HG.out, rfl⟩, hb⟩
end Go.Proofs.Ytefgnigbppfgfaa

/- Layer 2: contracts of sumText, Wrap, isCutNumber. -/
import Derived.Test.YtlgpkbcefaldoaaDoorW02
namespace Go.Proofs.YtlgpkbcefaldoaaDoor
open Go.RowKit
set_option linter.unusedVariables false

theorem sum_text (s : ByteArray) : (⟨(fixedL (crcL s.data.toList)).toArray⟩ : ByteArray).extract 4 8 = ⟨(sumL s.data.toList).toArray⟩ := by
  apply ByteArray.ext
  apply Array.toList_inj.1
  rw [Lib.extract_data]
  show ((fixedL (crcL s.data.toList)).drop 4).take 4 = sumL s.data.toList
  rw [sumL_fixed, List.take_of_length_le (by rw [sumL_len]; omega)]

set_option maxHeartbeats 400000 in
set_option maxRecDepth 100000 in
theorem sumText_any (s : ByteArray) (hs : s.size ≤ maxLen) (w : World) :
    Calls Tryd.prog 37 #[.string s] w fun e w' => e = .returned (.string ⟨(sumL s.data.toList).toArray⟩) ∧ Below w.heap.size w w' := by
  have hx := Lib.hid (sum_text s)
  have hw : IntKind.u64.wrap (crcL s.data.toList : Int) = (crcL s.data.toList : Nat) := by
    have := (crcL_32 s.data.toList).out
    exact IntWalk.u64_in _ ⟨by omega, by omega⟩
  have hl := fixedL_len (crcL s.data.toList)
  have h64 := (crcL_32 s.data.toList).u64
  go_enter Tryd.func37, Tryd.ntmps37
  go_wp2_with fail
  refine (sum_any _ hs _).mono ?_
  rintro e w' ⟨rfl, rfl⟩
  go_wp2_with fail
  refine (fixed_any _ h64 _).mono ?_
  rintro e w1 ⟨rfl, hb1⟩
  go_wp2
  go_ret
  exact ⟨by rw [← hx.out]; rfl, hb1⟩

theorem wrap_text (s : ByteArray) : (⟨(putL s.size).toArray⟩ ++ ⟨(sumL s.data.toList).toArray⟩ ++ s : ByteArray) = ⟨(frameL s.data.toList).toArray⟩ := by
  apply ByteArray.ext
  apply Array.toList_inj.1
  simp [frameL]

set_option maxHeartbeats 400000 in
set_option maxRecDepth 100000 in
theorem wrap_any (s : ByteArray) (hs : s.size ≤ 1048576) (w : World) :
    Calls Tryd.prog 21 #[.string s] w fun e w' => e = .returned (.tuple #[.string ⟨(frameL s.data.toList).toArray⟩, .int .i64 0]) ∧ Below w.heap.size w w' := by
  have hx := Lib.hid (wrap_text s)
  have hl := putL_len10 (small64 hs)
  have h4 := sumL_len s.data.toList
  have h64 := small64 hs
  go_enter Tryd.func21, Tryd.ntmps21
  go_wp2_with fail
  refine (put_any _ h64 _).mono ?_
  rintro e w1 ⟨rfl, hb1⟩
  go_wp2_with fail
  refine (sumText_any _ (by unfold maxLen; omega) _).mono ?_
  rintro e w2 ⟨rfl, hb2⟩
  go_wp2
  go_ret2
  exact ⟨by rw [← hx.out]; rfl, below_next hb1 (Nat.le_refl _) hb2⟩

set_option maxHeartbeats 400000 in
set_option maxRecDepth 100000 in
theorem wrap_long (s : ByteArray) (hs : ¬ s.size ≤ 1048576) (w : World) :
    Calls Tryd.prog 21 #[.string s] w fun e w' => e = .returned (.tuple #[.string ⟨#[]⟩, .int .i64 2]) ∧ w = w' := by
  go_enter Tryd.func21, Tryd.ntmps21
  go_wp2
  go_ret2
  exact ⟨rfl, rfl⟩

/-- Are the bytes ahead of k all 128 or more? -/
def highTo (l : List UInt8) (k : Nat) : Bool := (l.take k).all fun c => decide (128 ≤ c.toNat)

theorem highTo_zero (l : List UInt8) : highTo l 0 = true := rfl

theorem highTo_next {l : List UInt8} {k : Nat} (h : k < l.length) : highTo l (k + 1) = (highTo l k && decide (128 ≤ l[k].toNat)) := by
  unfold highTo
  rw [List.take_succ_eq_append_getElem h, List.all_append]
  simp

theorem isCut_high {l : List UInt8} (h : l.length < 10) : isCut l = highTo l l.length := by
  unfold isCut highTo
  rw [List.take_length, decide_eq_true h, Bool.true_and]

theorem isCut_long {l : List UInt8} (h : ¬ l.length < 10) : isCut l = false := by
  unfold isCut
  rw [decide_eq_false h, Bool.false_and]

theorem isCut_low {l : List UInt8} {k : Nat} (h : k < l.length) (hc : l[k].toNat < 128) : isCut l = false := isCut_not (List.getElem_mem h) hc

set_option maxHeartbeats 400000 in
set_option maxRecDepth 100000 in
theorem cut_any (s : ByteArray) (hs : s.size ≤ maxLen) (w : World) :
    Calls Tryd.prog 58 #[.string s] w fun e w' => e = .returned (.bool (isCut s.data.toList)) ∧ w = w' := by
  unfold maxLen at hs
  have hlen : s.data.toList.length = s.size := by simp
  by_cases h10 : s.size < 10
  · have hc := Lib.hid (isCut_high (l := s.data.toList) (by omega))
    clear hlen
    go_enter Tryd.func58, Tryd.ntmps58
    go_wp2
    go_loop [9] (fun i => ∃ (k : Nat), k ≤ s.size ∧ i = .int .i64 (k : Int) ∧ Hid (highTo s.data.toList k = true)) (fun i => s.size - (intOf i).toNat)
    case atStart => exact ⟨0, by omega, rfl, rfl⟩
    case round =>
      obtain ⟨k, hk, rfl, hh⟩ := hrel
      by_cases hlt : k < s.size
      · by_cases h128 : s[k].toNat < 128
        · have hf := Lib.hid (isCut_low (l := s.data.toList) (k := k) (by simpa using hlt) h128)
          go_wp2
          go_ret
          exact ⟨by rw [hf.out]; rfl, rfl⟩
        · have hn : Hid (highTo s.data.toList (k + 1) = true) := by
            show _ = _
            rw [highTo_next (by simpa using hlt), hh.out, Bool.true_and]
            exact decide_eq_true (by show 128 ≤ s[k].toNat; omega)
          go_wp2
          go_round
          case rel => exact ⟨k + 1, by omega, by go_num, hn⟩
          case measure => simp [intOf]; omega
      · obtain rfl : k = s.size := by omega
        have hf : Hid (isCut s.data.toList = true) := by
          show _ = _
          rw [hc.out, Array.length_toList]; exact hh.out
        go_wp2
        go_ret
        exact ⟨by rw [hf.out]; rfl, rfl⟩
  · have hf := Lib.hid (isCut_long (l := s.data.toList) (by omega))
    clear hlen
    go_enter Tryd.func58, Tryd.ntmps58
    go_wp2
    go_ret
    exact ⟨by rw [hf.out]; rfl, rfl⟩
end Go.Proofs.YtlgpkbcefaldoaaDoor

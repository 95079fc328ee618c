/- Layer 12: contracts of the reference's Named, in, Step. -/
import Derived.Test.YthliofijioghkaaM12
import Derived.Test.YthliofijioghkaaG5
import Derived.WalkKit
import Derived.OpenShut
import Derived.Outline
namespace Go.Proofs.Ythliofijioghkaa
open Go.RowKit
set_option linter.unusedVariables false

def StepS.cells (x : StepS) : List Value := [.int .i64 x.kind, .string x.name, .string x.undo, .int .i64 x.tries, .int .i64 x.undoTries, .int .i64 x.wait]
def StepS.val' (x : StepS) : Value := .agg #[.int .i64 x.kind, .string x.name, .string x.undo, .int .i64 x.tries, .int .i64 x.undoTries, .int .i64 x.wait]
theorem all_take {l : List UInt8} {i : Nat} (h : i < l.length) : (l.take (i + 1)).all byteB = ((l.take i).all byteB && byteB l[i]) := by
  rw [List.take_succ_eq_append_getElem h, List.all_append]
  simp
theorem all_no {l : List UInt8} {i : Nat} (h : i < l.length) (hb : byteB l[i] = false) : l.all byteB = false := by
  cases h2 : l.all byteB with
  | false => rfl
  | true => rw [List.all_eq_true.1 h2 _ (List.getElem_mem h)] at hb; cases hb
theorem byteB_eq (c : UInt8) : byteB c = !(decide ((c.toNat : Int) < 33) || decide ((126 : Int) < (c.toNat : Int))) := by
  unfold byteB
  have : c.toNat < 256 := c.toNat_lt
  by_cases h1 : 33 ≤ c.toNat <;> by_cases h2 : c.toNat ≤ 126 <;> simp [h1, h2] <;> omega

set_option maxHeartbeats 1000000 in
set_option maxRecDepth 100000 in
theorem rnamed_any (s : ByteArray) (hs : s.size ≤ maxLen) (w : World) :
    Calls Try.prog 44 #[.string s] w fun e w' => e = .returned (.bool (nameB s)) ∧ w' = w := by
  have hs2 : s.size ≤ 9223372036854775807 := by unfold maxLen at hs; omega
  have hl : s.data.toList.length = s.size := by simp
  have HNM : Hid (s.data.toList.all byteB = true → nameB s = (decide (1 ≤ s.size) && decide (s.size ≤ 16))) := fun h => by unfold nameB; rw [h]; rfl
  have HNO : Hid (s.data.toList.all byteB = false → nameB s = false) := fun h => by unfold nameB; rw [h]; rfl
  generalize nameB s = NB at *
  go_enter Try.func44, Try.ntmps44
  go_wp2
  go_loop [3] (fun iv => ∃ i : Nat, i ≤ s.size ∧ iv = .int .i64 (i : Int) ∧ Hid ((s.data.toList.take i).all byteB = true)) (fun iv => s.size - (intOf iv).toNat)
  case atStart => exact ⟨0, Nat.zero_le _, rfl, rfl⟩
  case round =>
    obtain ⟨i, hi, rfl, HA⟩ := hrel
    by_cases hlt : i < s.size
    · have HT := Lib.hid (all_take (l := s.data.toList) (i := i) (by omega))
      have HB := Lib.hid (all_no (l := s.data.toList) (i := i) (by omega))
      have hgi : s.data.toList[i]'(by omega) = s[i] := by simp; rfl
      rw [hgi] at HT HB
      have hbq := byteB_eq s[i]
      have hmes : s.size - (intOf (.int .i64 ((i : Int) + 1))).toNat < s.size - (intOf (.int .i64 (i : Int))).toNat := by simp [intOf]; omega
      by_cases h1 : ((s[i].toNat : Nat) : Int) < 33
      · have hb : byteB s[i] = false := by rw [hbq]; simp [h1]
        have HN := Lib.hid (HNO.out (HB.out hb))
        clear hbq hgi
        go_wp2
        go_ret
        exact ⟨by rw [HN.out]; rfl, rfl⟩
      · by_cases h2 : (126 : Int) < ((s[i].toNat : Nat) : Int)
        · have hb : byteB s[i] = false := by rw [hbq]; simp [h2]
          have HN := Lib.hid (HNO.out (HB.out hb))
          clear hbq hgi
          go_wp2
          go_ret
          exact ⟨by rw [HN.out]; rfl, rfl⟩
        · have hb : byteB s[i] = true := by rw [hbq]; simp [h1, h2]
          have HA2 : Hid ((s.data.toList.take (i + 1)).all byteB = true) := by show _ = _; rw [HT.out, HA.out, hb]; rfl
          clear hbq hgi
          go_wp2
          go_round
          case rel => exact ⟨i + 1, by omega, by go_num, HA2.out⟩
          case measure => exact hmes
    · obtain rfl : i = s.size := by omega
      have HN := Lib.hid (HNM.out (by have := HA.out; rwa [List.take_of_length_le (by omega)] at this))
      by_cases h1 : (1 : Int) ≤ (s.size : Int)
      · by_cases h2 : (s.size : Int) ≤ 16
        · go_wp2
          go_ret
          exact ⟨by rw [HN.out]; simp; omega, rfl⟩
        · go_wp2
          go_ret
          exact ⟨by rw [HN.out]; simp; omega, rfl⟩
      · go_wp2
        go_ret
        exact ⟨by rw [HN.out]; simp; omega, rfl⟩

set_option maxHeartbeats 1000000 in
theorem rin_any (n low high : Int) (w : World) :
    Calls Try.prog 68 #[.int .i64 n, .int .i64 low, .int .i64 high] w fun e w' => e = .returned (.bool (inB n low high)) ∧ w' = w := by
  have HI : Hid (inB n low high = (decide (low ≤ n) && decide (n ≤ high))) := rfl
  generalize inB n low high = IB at *
  go_enter Try.func68, Try.ntmps68
  by_cases h1 : low ≤ n
  · by_cases h2 : n ≤ high
    · go_wp2
      go_ret
      exact ⟨by rw [HI.out]; congr 1; simp; omega, rfl⟩
    · go_wp2
      go_ret
      exact ⟨by rw [HI.out]; congr 1; simp; omega, rfl⟩
  · go_wp2
    go_ret
    exact ⟨by rw [HI.out]; congr 1; simp; omega, rfl⟩
end Go.Proofs.Ythliofijioghkaa

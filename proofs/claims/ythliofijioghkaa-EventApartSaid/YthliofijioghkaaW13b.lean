/- Layer 13: contracts of the program's isData, Check. -/
import Derived.Test.YthliofijioghkaaW13
import Derived.Test.YthliofijioghkaaW12f
import Derived.Test.YthliofijioghkaaR13c
import Derived.Test.YthliofijioghkaaI20
import Derived.Deep.Cut
namespace Go.Proofs.Ythliofijioghkaa
open Go.RowKit
set_option linter.unusedVariables false

theorem shape_other {k : Int} (h1 : k ≠ 1) (h2 : k ≠ 12) : shapeL k ≠ [112] ∧ shapeL k ≠ [110] := by
  unfold shapeL shapeN
  rw [if_neg (by omega)]
  repeat' split
  all_goals first | exact ⟨by decide, by decide⟩ | omega
set_option maxHeartbeats 1000000 in
set_option maxRecDepth 100000 in
theorem isData_any (k : Int) (s : ByteArray) (hs : s.size ≤ 140737488351232) (w : World) :
    Calls Try.prog 30 #[.int .i64 k, .string s] w fun e w' => e = .returned (.bool (dataB (shapeL k) s)) ∧ Below w.heap.size w w' := by
  by_cases h1 : k = 1
  · subst h1
    have HO : Hid (dataB (shapeL 1) s = okB s.data.toList) := rfl
    generalize dataB (shapeL 1) s = D at *
    go_enter Try.func30, Try.ntmps30
    go_wp2_with fail
    refine (decode_any s hs _).mono ?_
    rintro e w1 ⟨a, c, p, E, rfl, hR, hE, b1⟩
    have hE2 := okB_end hE
    have B1 := Lib.hid b1
    have HO2 : Hid (D = ((E : Int) == 0)) := by show _ = _; rw [HO.out, hE2]
    clear hR hE b1 hE2
    unfold ProgS.val'
    go_wp2
    go_ret
    exact ⟨by rw [HO2.out]; rfl, by repeat (first | exact B1.out | apply Below.drew | (refine Below.alloc ?_ (by exact B1.out.size) _) | (refine Below.setCell ?_ (by exact B1.out.size) _))⟩
  · by_cases h2 : k = 12
    · subst h2
      have HO : Hid (dataB (shapeL 12) s = nameB s) := rfl
      have HN := Lib.hid (named_any s (by unfold maxLen; omega))
      generalize dataB (shapeL 12) s = D at *
      generalize nameB s = NB at *
      go_enter Try.func30, Try.ntmps30
      go_wp2_with fail
      refine (HN.out _).mono ?_
      rintro e w1 ⟨rfl, rfl⟩
      go_wp2
      go_ret
      exact ⟨by rw [HO.out]; rfl, Below.refl _ _⟩
    · have HO : Hid (dataB (shapeL k) s = s.toList.isEmpty) := by
        show _ = _
        obtain ⟨a, b⟩ := shape_other h1 h2
        exact dataB_empty s (by rw [bx_list]; simpa using a) (by rw [bx_list]; simpa using b)
      have HT : Hid (s.toList.isEmpty = (s.toList == [])) := by
        show _ = _
        cases s.toList <;> rfl
      generalize dataB (shapeL k) s = D at *
      have k1 : (k == 1) = false := by rw [beq_eq_false_iff_ne]; exact h1
      have k2 : (k == 12) = false := by rw [beq_eq_false_iff_ne]; exact h2
      clear h1 h2
      go_enter Try.func30, Try.ntmps30
      go_wp2
      go_ret
      exact ⟨by rw [HO.out, HT.out]; rfl, Below.refl _ _⟩

end Go.Proofs.Ythliofijioghkaa

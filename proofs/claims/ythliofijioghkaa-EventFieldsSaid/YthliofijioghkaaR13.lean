/- Layer 13: contracts of the reference's fields, in. -/
import Derived.Test.YthliofijioghkaaM13
import Derived.Test.YthliofijioghkaaR12e
import Derived.Test.YthliofijioghkaaShelf
import Derived.Lib.IndexLaws
namespace Go.Proofs.Ythliofijioghkaa
open Go.RowKit
set_option linter.unusedVariables false

theorem index_has (l : List UInt8) (c : UInt8) : decide (0 ≤ Go.Lib.indexByte l c) = l.contains c := by
  induction l with
  | nil => rfl
  | cons b l ih =>
    have hge := Go.Lib.indexByte_ge l c
    rw [List.contains_cons]
    unfold Go.Lib.indexByte
    by_cases hb : b = c
    · subst hb; simp
    · have h1 : (b == c) = false := by simpa using hb
      have h2 : (c == b) = false := by simpa using fun e => hb e.symm
      rw [h1, h2, ← ih]
      by_cases hm : Go.Lib.indexByte l c = -1
      · rw [hm]; rfl
      · have : (Go.Lib.indexByte l c == -1) = false := by simpa using hm
        rw [this]
        simp only [Bool.false_or, Bool.false_eq_true, if_false]
        congr 1
        refine propext ?_
        omega

set_option maxHeartbeats 1000000 in
theorem rin13_any (f : List UInt8) (c : UInt8) (n low high : Int) (w : World) :
    Calls Try.prog 42 #[.string (bx f), .string ⟨#[c]⟩, .int .i64 n, .int .i64 low, .int .i64 high] w fun e w' => e = .returned (.bool (fieldB f c n low high)) ∧ w' = w := by
  have hc := Sh.strings_Contains_one (bx f) c w
  rw [show (bx f).data.toList = f from rfl, index_has] at hc
  have HI : Hid (fieldB f c n low high = if f.contains c then (decide (low ≤ n) && decide (n ≤ high)) else decide (n = 0)) := rfl
  generalize fieldB f c n low high = FB at *
  generalize f.contains c = b at *
  go_enter Try.func42, Try.ntmps42
  go_wp2_with fail
  refine hc.mono ?_
  rintro e w1 ⟨rfl, rfl⟩
  cases b
  · by_cases h1 : n = 0
    · go_wp2
      go_ret
      exact ⟨by rw [HI.out]; simp [h1], rfl⟩
    · go_wp2
      go_ret
      exact ⟨by rw [HI.out]; simp [h1], rfl⟩
  · by_cases h1 : low ≤ n
    · by_cases h2 : n ≤ high
      · go_wp2
        go_ret
        exact ⟨by rw [HI.out]; simp [h1, h2], rfl⟩
      · go_wp2
        go_ret
        exact ⟨by rw [HI.out]; simp [h1, h2], rfl⟩
    · go_wp2
      go_ret
      exact ⟨by rw [HI.out]; simp; intro h; omega, rfl⟩
end Go.Proofs.Ythliofijioghkaa

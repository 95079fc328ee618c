/- Layer 12: the contract of the reference's Same. -/
import Derived.Test.YthliofijioghkaaR12c
import Derived.Laws.StructEq
import Derived.Deep.QuietTactic
import Derived.BigQuiet
namespace Go.Proofs.Ythliofijioghkaa
open Go.RowKit
set_option linter.unusedVariables false

theorem toList_iff12 (a b : ByteArray) : (a.toList = b.toList) = (a = b) := by
  refine propext ⟨fun h => ?_, fun h => by rw [h]⟩
  rw [Lib.toList_data, Lib.toList_data] at h
  obtain ⟨⟨x⟩⟩ := a
  obtain ⟨⟨y⟩⟩ := b
  have h : x = y := h
  rw [h]

set_option maxRecDepth 100000 in
set_option maxHeartbeats 1000000 in
theorem step_equal (x y : StepS) (w : World) : (Op.equal 93 x.val' y.val').run Try.prog w = .ok (decide (x = y)) w := by
  obtain ⟨k1, n1, u1, t1, d1, w1⟩ := x
  obtain ⟨k2, n2, u2, t2, d2, w2⟩ := y
  show (Op.equalIn (9999 + 1) 93 _ _).run Try.prog w = _
  unfold StepS.val'
  rw [run_equalIn_struct w 9999 93 _ _ (by kernel_rfl) (by kernel_rfl)]
  go_simp
  simp only [toList_iff12]
  by_cases h1 : k1 = k2
  · by_cases h2 : n1 = n2
    · by_cases h3 : u1 = u2
      · by_cases h4 : t1 = t2
        · by_cases h5 : d1 = d2
          · by_cases h6 : w1 = w2 <;> simp [h1, h2, h3, h4, h5, h6]
          · simp [h1, h2, h3, h4, h5]
        · simp [h1, h2, h3, h4]
      · simp [h1, h2, h3]
    · simp [h1, h2]
  · simp [h1]
theorem step_neq (x y : StepS) (w : World) : (binOp BinOp.neq 93 x.val' y.val').run Try.prog w = .ok (.bool (!decide (x = y))) w := by
  have h := step_equal x y w
  unfold StepS.val' at h ⊢
  simp only [binOp]
  simp only [Sem.run_bind, h]
  rfl

def sameG (p q : ProgS) : Bool := decide (p.limit = q.limit) && decide (p.steps = q.steps)
theorem sameG_refl (p : ProgS) : sameG p p = true := by simp [sameG]
theorem sameG_iff (p q : ProgS) : sameG p q = true ↔ p = q := by
  obtain ⟨a, b⟩ := p
  obtain ⟨c, d⟩ := q
  simp only [sameG, Bool.and_eq_true, decide_eq_true_eq, ProgS.mk.injEq]
  exact ⟨fun h => ⟨h.2, h.1⟩, fun h => ⟨h.2, h.1⟩⟩

end Go.Proofs.Ythliofijioghkaa

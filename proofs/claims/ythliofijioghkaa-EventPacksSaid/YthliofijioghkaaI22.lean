/- An event in its box. -/
import Derived.Test.YthliofijioghkaaR13e
namespace Go.Proofs.Ythliofijioghkaa
open Go.RowKit
set_option linter.unusedVariables false

/-- An event in its box. -/
def EvBox (w : World) (b : Nat) (e : EvS) : Prop := w.heap[b]? = some (.cells e.arr 23 (0, 0))
section
variable {w w' : World} {b : Nat} {e : EvS}
theorem EvBox.lt (h : EvBox w b e) : b < w.heap.size := block_lt h
theorem EvBox.later (h : EvBox w b e) (t : Below w.heap.size w w') : EvBox w' b e := (t.block b h.lt).trans h
theorem EvBox.c (h : EvBox w b e) : w.cell? ⟨b, 0, none⟩ = some (.int .i64 e.id) ∧ w.cell? ⟨b, 1, none⟩ = some (.int .i64 e.kind) ∧ w.cell? ⟨b, 2, none⟩ = some (.int .i64 e.tick) ∧ w.cell? ⟨b, 3, none⟩ = some (.int .i64 e.ref) ∧
    w.cell? ⟨b, 4, none⟩ = some (.int .i64 e.step) ∧ w.cell? ⟨b, 5, none⟩ = some (.int .i64 e.tryN) ∧ w.cell? ⟨b, 6, none⟩ = some (.bool e.undo) ∧ w.cell? ⟨b, 7, none⟩ = some (.string e.data) :=
  ⟨by rw [block_cell h]; rfl, by rw [block_cell h]; rfl, by rw [block_cell h]; rfl, by rw [block_cell h]; rfl, by rw [block_cell h]; rfl, by rw [block_cell h]; rfl, by rw [block_cell h]; rfl, by rw [block_cell h]; rfl⟩
theorem evBoxed (w : World) (e : EvS) : ∃ w', w.alloc (.cells #[.int .i64 e.id, .int .i64 e.kind, .int .i64 e.tick, .int .i64 e.ref, .int .i64 e.step, .int .i64 e.tryN, .bool e.undo, .string e.data] 23) = w' ∧ Below w.heap.size w w' ∧ EvBox w' w.heap.size e ∧ w'.heap.size = w.heap.size + 1 :=
  ⟨_, rfl, (Below.refl _ w).alloc (Nat.le_refl _) _, heap_alloc_new _ _, by simp⟩
end
end Go.Proofs.Ythliofijioghkaa

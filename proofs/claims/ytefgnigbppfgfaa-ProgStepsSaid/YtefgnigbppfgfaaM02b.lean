/- Layer 2, plain facts: texts as values; Scan's relation. -/
import Derived.Test.YtefgnigbppfgfaaM02
import Derived.Test.YtefgnigbppfgfaaM01r
import Derived.Laws.AppendOwn
namespace Go.Proofs.Ytefgnigbppfgfaa
open Go.RowKit
set_option linter.unusedVariables false

theorem ownsRow_below {w w' : World} {base : Nat} {e : TypeId} {size : Nat} {v : Value} {n : Nat} {xs : List Value} (h : w.ownsRow base e size v n xs) (hb : Below w.heap.size w w') : w'.ownsRow base e size v n xs :=
  h.kept (grownBy_below none hb) (by cases v.ownBlock <;> simp)

/-- A text as a value. -/
def tx (l : List UInt8) : Value := .string ⟨l.toArray⟩
theorem tx_data (s : ByteArray) : tx s.data.toList = .string s := by unfold tx; congr 1

/-- Scan under way: 'done' is collected, t is left. -/
structure ScanRel (s : ByteArray) (done : List (List UInt8)) (t : ByteArray) : Prop where
  all : scanL s.data.toList = (done ++ (scanL t.data.toList).1, (scanL t.data.toList).2)
  len : 5 * done.length + t.size ≤ s.size

theorem ScanRel.start (s : ByteArray) : ScanRel s [] s := ⟨by simp, by simp⟩

theorem ScanRel.next {s t a r : ByteArray} {done : List (List UInt8)} (h : ScanRel s done t) (hn : nextL t.data.toList = (0, a.data.toList, r.data.toList)) :
    ScanRel s (done ++ [a.data.toList]) r ∧ r.size < t.size := by
  have hl := (nextL_less (l := t.data.toList) (by rw [hn])).1
  rw [hn] at hl
  simp only [Array.length_toList] at hl
  have e1 : r.data.size = r.size := rfl
  have e2 : t.data.size = t.size := rfl
  have := h.len
  refine ⟨⟨?_, ?_⟩, by omega⟩
  · rw [h.all, scanL_ok hn]; simp
  · rw [List.length_append, List.length_singleton]; omega

theorem ScanRel.stop {s t : ByteArray} {done : List (List UInt8)} {k : Nat} (h : ScanRel s done t) (hk : k = 20 ∨ k = 21) (hn : nextL t.data.toList = (k, [], [])) :
    (scanL s.data.toList).1 = done ∧ (scanL s.data.toList).2.length = t.size := by
  have := scanL_bad (l := t.data.toList) (by rw [hn]; simp; omega)
  rw [h.all, this]
  simp

end Go.Proofs.Ytefgnigbppfgfaa

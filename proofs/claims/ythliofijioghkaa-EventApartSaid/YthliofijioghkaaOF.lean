/- Slices of structs of one-cell fields that came in, opened. -/
import Derived.Test.YthliofijioghkaaRows
import Derived.Test.YthliofijioghkaaOB
import Derived.Deep.Slices
import Derived.Deep.Fields
import Derived.ChangeSame
namespace Go.Proofs.Ythliofijioghkaa
open Go.ChangeShapes Go.WideShapes Go.ChangeAt Go.RowKit Go.Deep
set_option linter.unusedVariables false

section
variable {H : Type} {enc : TypeId × Value → H} {P : Program} {W : World} {v : Value} {x : DataW H × List MemPlace}

/-- Each element by itself: its cells, and each as its field reads. -/
theorem rows_open {t e : TypeId} {fs : Array Field} {fuel : Nat} (ht : P.underlying t = some (.slice e)) (he : P.underlying e = some (.struct fs)) (hone : oneCellFields P fs = true) (hC : P.cellsOf e = fs.size)
    (h : DataW.trod enc P W 0 (fun _ => true) true fuel t [v] = some x) :
    (v = .slice none 0 0 ∧ x.1 = .nil) ∨ ∃ (a : Addr) (len cap : Nat) (D : Nat → DataW H) (rest : List (DataW H)), v = .slice (some a) len cap ∧ len ≤ cap ∧ cap ≤ maxLen ∧ x.1 = .slice ((List.range len).map D) rest ∧
      ∀ i, i < len → ∃ (vs : List Value) (ys : List (DataW H × List MemPlace)) (n : Nat), vs.length = fs.size ∧ ys.length = fs.size ∧ D i = .agg (ys.map (·.1)) ∧ (∀ j (hj : j < vs.length), W.cell? (a.add (i * fs.size + j)) = some vs[j]) ∧
        ∀ (j : Nat) (f : Field), fs[j]? = some f → ∃ u y, vs[j]? = some u ∧ ys[j]? = some y ∧ DataW.trod enc P W 0 (fun _ => true) true n f.type [u] = some y := by
  rcases open_slice ht h with ⟨h1, h2⟩ | ⟨a, len, cap, m, n, D, Pl, h1, _, h2, h3, h4, h5, h6⟩
  · simp at h1
    exact .inl ⟨h1, by rw [h2]⟩
  · simp at h1
    refine .inr ⟨a, len, cap, D, _, h1, h2, h3, by rw [h5], fun i hi => ?_⟩
    obtain ⟨cs, hcs, htr⟩ := h6 i (by simp at h4; omega)
    obtain ⟨_, hlen, hcell⟩ := World.cells?_some hcs
    obtain ⟨ys, k, _, hD, hl2, hl3, hf⟩ := DataW.trod_struct he htr
    simp only [Prod.mk.injEq] at hD
    rw [hC] at hlen hcell
    refine ⟨cs, ys, k, hlen, hl3, hD.1, fun j hj => ?_, fun j f hj => ?_⟩
    · have := hcell j (by omega)
      rw [add_add] at this
      rw [this, List.getElem?_eq_getElem hj]
    · obtain ⟨ho, hk⟩ := hone_of hone j f hj
      have hjl : j < fs.size := (Array.getElem?_eq_some_iff.1 hj).1
      have hfj := hf j f hj
      have h1 : cs.drop f.offset = cs[j] :: cs.drop (j + 1) := by rw [ho]; exact List.drop_eq_getElem_cons (by omega)
      rw [h1, hk] at hfj
      refine ⟨cs[j], ys[j], List.getElem?_eq_getElem (by omega), List.getElem?_eq_getElem (by omega), ?_⟩
      rw [List.getElem?_eq_getElem (by omega)] at hfj
      exact hfj

theorem bulk_map (D : Nat → DataW H) (g : Nat → Nat) : ∀ l : List Nat, (∀ i ∈ l, g i ≤ Rows.uptoBulk (D i)) → (l.map g).sum ≤ Rows.uptoBulkAll (l.map D)
  | [], _ => by simp [Rows.uptoBulkAll]
  | i :: r, h => by
    have h1 := h i (by simp)
    have h2 := bulk_map D g r (fun j hj => h j (by simp [hj]))
    simp only [List.map_cons, List.sum_cons, Rows.uptoBulkAll]
    omega
end
end Go.Proofs.Ythliofijioghkaa

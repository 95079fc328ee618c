/- Arguments of layer 4's laws, opened: a part; slices of slices of texts. -/
import Derived.Test.YtlgpkbcefaldoaaDoorO03
import Derived.Deep.Slices
import Derived.Lib.SmallJoins
namespace Go.Proofs.YtlgpkbcefaldoaaDoor
open Go.ChangeShapes Go.WideShapes Go.ChangeAt Go.RowKit Go.Deep
set_option linter.unusedVariables false

section
variable {H : Type} {enc : TypeId × Value → H} {W : World} {base : Nat} {v : Value} {d : DataW H} {p : List MemPlace}

set_option maxRecDepth 100000 in
/-- A slice of texts, of whatever fuel its reading is. -/
theorem texts_open {fuel : Nat} {x : DataW H × List MemPlace} (hf : DataW.trod enc Tryd.prog W 0 (fun _ => true) true fuel 22 [v] = some x) :
    ∃ a len cap ss, v = .slice a len cap ∧ Row1 W a len (fun i => .string ((ss : List ByteArray).getD i ByteArray.empty)) ∧ ss.length = len ∧ sizes ss + ss.length ≤ Rows.uptoBulk x.1 ∧ len ≤ cap := by
  rcases open_strings Tryd.underlying22 Tryd.underlying9 (by kernel_rfl) hf with ⟨hcs, hx⟩ | ⟨x0, l, c, ss, hcs, _, hl, hm, hz, hx, hcell, hws⟩
  · simp at hcs
    subst hcs
    exact ⟨none, 0, 0, [], rfl, ⟨by omega, .inl rfl⟩, rfl, by simp [sizes], by omega⟩
  · simp at hcs
    subst hcs
    subst hx
    simp only [if_true] at hz
    refine ⟨some x0, l, c, ss.take l, rfl, ?_, by simp; omega, ?_, hl⟩
    · refine row1_of (n := l) (Nat.le_refl _) (by omega) fun i hi => ?_
      rw [hcell i (by omega)]
      have hi' : i < ss.length := by omega
      congr 2
      simp [List.getD, hi, hi']
    · have := bulk_strs (H := H) (ss.take l)
      simp only [Rows.uptoBulk]
      omega

set_option maxRecDepth 100000 in
theorem open_part (hval : Value.okWide Tryd.prog W .any base 25 v) (h : DataW.Trod enc Tryd.prog W 0 (fun _ => true) true 25 v d p) :
    ∃ a len cap ss sy fu kv ks, v = .agg #[.slice a len cap, .int .i64 sy, .int .i64 fu, kv] ∧ Row1 W a len (fun i => .string ((ss : List ByteArray).getD i ByteArray.empty)) ∧ ss.length = len ∧ len ≤ cap ∧ (Lit.int .i64 fu).wf = true ∧
      IntsAt (fun k => W.heap.size ≤ k) W kv ks ∧ sizes ss + ss.length ≤ Rows.uptoBulk d := by
  obtain ⟨v0, v1, v2, v3, y0, y1, y2, y3, n, rfl, rfl, _, t0, t1, t2, t3⟩ := Joins.open_agg4 Tryd.underlying25 (by kernel_rfl) (by kernel_rfl) hval h
  obtain ⟨a, len, cap, ss, rfl, hR, hl, hb, hc⟩ := texts_open t0
  obtain ⟨sy, e1, e1d, w1⟩ := DataW.trod_int Tryd.underlying3 t1
  obtain ⟨fu, e2, e2d, w2⟩ := DataW.trod_int Tryd.underlying3 t2
  obtain ⟨ks, hks, hkb⟩ := keep_open t3
  simp only [List.cons.injEq, and_true] at e1 e2
  subst e1; subst e2
  refine ⟨a, len, cap, ss, sy, fu, v3, ks, rfl, hR, hl, hc, w2, hks, ?_⟩
  simp only [Rows.uptoBulk, Rows.uptoBulkAll]
  omega
end
end Go.Proofs.YtlgpkbcefaldoaaDoor

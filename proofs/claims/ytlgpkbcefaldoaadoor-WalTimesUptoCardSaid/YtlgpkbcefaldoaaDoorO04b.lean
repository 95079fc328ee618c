/- Arguments of layer 4's laws, opened: slices of slices of texts; numbers, and nil known as such. -/
import Derived.Test.YtlgpkbcefaldoaaDoorO04
import Derived.Test.YtlgpkbcefaldoaaDoorOF
import Derived.Test.YtlgpkbcefaldoaaDoorW04m
namespace Go.Proofs.YtlgpkbcefaldoaaDoor
open Go.ChangeShapes Go.WideShapes Go.ChangeAt Go.RowKit Go.Deep
set_option linter.unusedVariables false

instance : Inhabited TimeS := ⟨TimeS.none⟩

section
variable {H : Type} {enc : TypeId × Value → H} {W : World} {base : Nat} {v : Value} {d : DataW H} {p : List MemPlace}

set_option maxRecDepth 100000 in
theorem open_keepn (hval : Value.okWide Tryd.prog W .any base 23 v) (h : DataW.Trod enc Tryd.prog W 0 (fun _ => true) true 23 v d p) :
    ∃ ks, IntsAt (fun k => W.heap.size ≤ k) W v ks ∧ ks.length ≤ Rows.uptoBulk d ∧ ∀ n c, v = .slice none n c → c = 0 := by
  have h' := h
  obtain ⟨ks, h1, h2⟩ := open_keep hval h
  refine ⟨ks, h1, h2, fun n c hv => ?_⟩
  obtain ⟨fuel, hf⟩ := h'
  subst hv
  rcases Deep.open_slice Tryd.underlying23 hf with ⟨hcs, _⟩ | ⟨a, len, cap, m, k, D, Pl, hcs, _⟩
  · simp [Value.cells] at hcs
    exact hcs.2
  · simp [Value.cells] at hcs

set_option maxRecDepth 100000 in
theorem open_times (hval : Value.okWide Tryd.prog W .any base 41 v) (h : DataW.Trod enc Tryd.prog W 0 (fun _ => true) true 41 v d p) :
    ∃ a len cap ts, v = .slice a len cap ∧ TimesRow W a ts ∧ ts.length = len ∧ timesW ts ≤ Rows.uptoBulk d := by
  obtain ⟨a0, len0, cap0, rfl⟩ := okWide_slice Tryd.underlying41 hval
  obtain ⟨fuel, hf⟩ := h
  have hf' : DataW.trod enc Tryd.prog W 0 (fun _ => true) true fuel 41 [.slice a0 len0 cap0] = some (d, p) := by simpa [Value.cells] using hf
  rcases Deep.open_slice Tryd.underlying41 hf' with ⟨h1, h2⟩ | ⟨a, len, cap, m, n, D, Pl, h1, _, h2, h3, h4, h5, h6⟩
  · simp at h1
    obtain ⟨rfl, rfl, rfl⟩ := h1
    exact ⟨none, 0, 0, [], rfl, ⟨⟨by decide, .inl rfl⟩, by simp⟩, rfl, by simp [timesW]⟩
  · simp at h1
    obtain ⟨rfl, rfl, rfl⟩ := h1
    simp only [Prod.mk.injEq] at h5
    have hone : Tryd.prog.cellsOf 22 = 1 := by kernel_rfl
    have each : ∀ i, i < len0 → ∃ t : TimeS, W.cell? (a.add i) = some t.val ∧ Row1 W t.a t.ss.length (fun i => .string (t.ss.getD i ByteArray.empty)) ∧ sizes t.ss + t.ss.length ≤ Rows.uptoBulk (D i) := fun i hi => by
      obtain ⟨cs, hcs, htr⟩ := h6 i (by simp at h4; omega)
      rw [hone, Nat.mul_one] at hcs
      obtain ⟨_, hlen, hcell⟩ := World.cells?_some hcs
      match cs, hlen with
      | [u], _ =>
        obtain ⟨xa, xl, xc, ss, rfl, hR, hl, hb, _⟩ := texts_open htr
        have hc0 := hcell 0 (by decide)
        subst hl
        refine ⟨⟨xa, xc, ss⟩, ?_, hR, hb⟩
        rw [add_add, Nat.add_zero] at hc0
        exact hc0
    obtain ⟨q, hq⟩ := choose_lt (α := TimeS) each
    have hl : ((List.range len0).map q).length = len0 := by simp
    refine ⟨some a, len0, cap0, (List.range len0).map q, rfl, ⟨?_, ?_⟩, hl, ?_⟩
    · rw [hl]
      refine row1_of (n := len0) (Nat.le_refl _) (by omega) fun i hi => ?_
      rw [(hq i hi).1]
      congr 1
      simp [List.getD, hi]
    · intro t ht
      obtain ⟨i, hi, rfl⟩ := List.mem_map.1 ht
      exact (hq i (List.mem_range.1 hi)).2.1
    · rw [h5.1]
      simp only [Rows.uptoBulk]
      have := bulk_map D (fun i => sizes (q i).ss + (q i).ss.length) (List.range len0) (fun i hi => (hq i (List.mem_range.1 hi)).2.2)
      unfold timesW
      rw [List.map_map]
      show ((List.range len0).map fun i => sizes (q i).ss + (q i).ss.length).sum ≤ _
      omega
end
end Go.Proofs.YtlgpkbcefaldoaaDoor

/- Lists of lists of pairs that came in, opened. -/
import Derived.Test.YtebiipmaimdocaaO05
import Derived.Test.YtebiipmaimdocaaG12
namespace Go.Proofs.Ytebiipmaimdocaa
open Go.ChangeShapes Go.WideShapes Go.ChangeAt Go.RowKit Go.Deep
set_option linter.unusedVariables false

section
variable {H : Type} {enc : TypeId × Value → H} {W : World} {base : Nat} {v : Value} {d : DataW H} {p : List MemPlace}

/-- A list of pairs as it came in: where it lies, and the pairs. -/
structure ListS where
  a : Option Addr
  c : Nat
  l : List PairS
instance : Inhabited ListS := ⟨⟨none, 0, []⟩⟩
def ListS.val (t : ListS) : Value := .slice t.a t.l.length t.c

theorem sum_map_le {α : Type} (f g : α → Nat) : ∀ l : List α, (∀ x ∈ l, f x ≤ g x) → (l.map f).sum ≤ (l.map g).sum
  | [], _ => Nat.le_refl _
  | x :: r, h => by
    have h1 := h x (by simp)
    have h2 := sum_map_le f g r (fun y hy => h y (by simp [hy]))
    simp only [List.map_cons, List.sum_cons]
    omega

set_option maxRecDepth 100000 in
theorem open_listsu (hval : Value.okWide Try.prog W .any base 22 v) (h : DataW.Trod enc Try.prog W 0 (fun _ => true) true 22 v d p) :
    ∃ a cap ls, v = .slice a (List.length ls) cap ∧ ReadL W (.slice a (List.length ls) cap) ls ∧ sumL8 ls + ls.length ≤ Rows.uptoBulk d := by
  obtain ⟨a0, len0, cap0, rfl⟩ := okWide_slice Try.underlying22 hval
  obtain ⟨fuel, hf⟩ := h
  have hf' : DataW.trod enc Try.prog W 0 (fun _ => true) true fuel 22 [.slice a0 len0 cap0] = some (d, p) := by simpa [Value.cells] using hf
  rcases Deep.open_slice Try.underlying22 hf' with ⟨h1, h2⟩ | ⟨a, len, cap, m, n, D, Pl, h1, _, h2, h3, h4, h5, h6⟩
  · simp at h1
    obtain ⟨rfl, rfl, rfl⟩ := h1
    exact ⟨none, 0, [], rfl, ⟨by decide, none, 0, rfl, .inl rfl⟩, by simp [sumL8]⟩
  · simp at h1
    obtain ⟨rfl, rfl, rfl⟩ := h1
    simp only [Prod.mk.injEq] at h5
    have hone : Try.prog.cellsOf 26 = 1 := by kernel_rfl
    have each : ∀ i, i < len0 → ∃ t : ListS, W.cell? (a.add i) = some t.val ∧ ReadP W t.val t.l ∧ t.l.length + 1 ≤ Rows.uptoBulk (D i) := fun i hi => by
      obtain ⟨cs, hcs, htr⟩ := h6 i (by simp at h4; omega)
      rw [hone, Nat.mul_one] at hcs
      obtain ⟨_, hlen, hcell⟩ := World.cells?_some hcs
      match cs, hlen with
      | [u], _ =>
        obtain ⟨xa, xc, ps, rfl, hR, hb, _⟩ := pairs_open htr
        have hc0 := hcell 0 (by decide)
        refine ⟨⟨xa, xc, ps⟩, ?_, hR, by simp only at hb ⊢; omega⟩
        rw [add_add, Nat.add_zero] at hc0
        exact hc0
    obtain ⟨q, hq⟩ := choose_ltP each
    have hl : ((List.range len0).map fun i => (q i).l).length = len0 := by simp
    refine ⟨some a, cap0, (List.range len0).map fun i => (q i).l, by rw [hl], ⟨by rw [hl]; unfold maxLen at *; omega, some a, cap0, rfl, ?_⟩, ?_⟩
    · by_cases h0 : len0 = 0
      · exact .inl (List.eq_nil_of_length_eq_zero (by rw [hl]; exact h0))
      · obtain ⟨b, off, spot⟩ := a
        have h00 := (hq 0 (by omega)).1
        have hspot : spot = none := by simpa [Addr.add] using World.cell?_spot h00
        subst hspot
        refine .inr ⟨b, off, rfl, fun i hi => ?_⟩
        rw [hl] at hi
        have := hq i hi
        simp only [List.getElem_map, List.getElem_range]
        rw [Addr.add_lit] at this
        exact ⟨_, this.1, this.2.1⟩
    · rw [h5.1, hl]
      simp only [Rows.uptoBulk]
      have := bulk_map D (fun i => (q i).l.length + 1) (List.range len0) (fun i hi => (hq i (List.mem_range.1 hi)).2.2)
      have e : ∀ l : List Nat, ((l.map fun i => (q i).l).map List.length).sum + l.length = (l.map fun i => (q i).l.length + 1).sum := by
        intro l
        induction l with
        | nil => rfl
        | cons x r ih => simp only [List.map_cons, List.sum_cons, List.length_cons]; omega
      have e2 := e (List.range len0)
      rw [List.length_range] at e2
      unfold sumL8
      omega
end
end Go.Proofs.Ytebiipmaimdocaa

/- Arguments of the laws, opened: how much they hold; slices of texts. -/
import Derived.Test.YthliofijioghkaaG1
import Derived.Test.YthliofijioghkaaRows
import Derived.ProofKit
import Derived.OpenShut
import Derived.SliceStrings
import Derived.SizedLaws
namespace Go.Proofs.Ythliofijioghkaa
open Go.ChangeShapes Go.WideShapes Go.ChangeAt Go.RowKit
set_option linter.unusedVariables false

theorem bulk_one {H : Type} (d : DataW H) : 1 ≤ Rows.uptoBulk d := by
  cases d with
  | lit l => cases l <;> simp [Rows.uptoBulk]
  | nil => simp [Rows.uptoBulk]
  | ptr d => simp [Rows.uptoBulk]
  | slice elems spare => simp [Rows.uptoBulk]
  | agg parts => simp [Rows.uptoBulk]
  | iface t d => simp [Rows.uptoBulk]
  | map entries => simp [Rows.uptoBulk]
  | held h => simp [Rows.uptoBulk]

theorem bulk_length {H : Type} (l : List (DataW H)) : l.length ≤ Rows.uptoBulkAll l := by
  induction l with
  | nil => simp [Rows.uptoBulkAll]
  | cons x r ih => have := bulk_one x; simp only [Rows.uptoBulkAll, List.length_cons]; omega

theorem bulk_bound {H : Type} {l : List (DataW H)} (hk : Rows.uptoSmall H l = true) : Rows.uptoBulkAll l ≤ 1048576 := of_decide_eq_true hk

theorem row1_of {W : World} {a : Addr} {len n : Nat} {V : Nat → Value} (hn : len ≤ n) (hm : len ≤ maxLen) (h : ∀ i, i < n → W.cell? (a.add i) = some (V i)) : Row1 W (some a) len V := by
  refine ⟨by unfold maxLen at hm; omega, ?_⟩
  by_cases h0 : len = 0
  · exact .inl h0
  · obtain ⟨b, off, spot⟩ := a
    have hspot : spot = none := by simpa [Addr.add] using World.cell?_spot (h 0 (by omega))
    subst hspot
    have hc : ∀ i, i < len → W.cell? ⟨b, off + i, none⟩ = some (V i) := fun i hi => by rw [← Addr.add_lit]; exact h i (by omega)
    exact .inr ⟨b, off, rfl, World.block_lt_of_cell? W ⟨b, off + 0, none⟩ (hc 0 (by omega)), hc⟩

section
variable {H : Type} {enc : TypeId × Value → H} {W : World} {base : Nat} {v : Value} {d : DataW H} {p : List MemPlace}

theorem bulk_strs (ss : List ByteArray) : Rows.uptoBulkAll (strs (H := H) ss) = sizes ss + ss.length := by
  induction ss with
  | nil => rfl
  | cons s r ih =>
    have e : strs (H := H) (s :: r) = .lit (.string s.data.toList) :: strs r := rfl
    rw [e, Rows.uptoBulkAll, Rows.uptoBulk, ih, sizes_cons]
    have : s.data.toList.length = s.size := by simp
    rw [List.length_cons]; omega

set_option maxRecDepth 100000 in
theorem open_textsc (hval : Value.okWide Try.prog W .any base 82 v) (h : DataW.Trod enc Try.prog W 0 (fun _ => true) true 82 v d p) :
    ∃ a len cap ss, v = .slice a len cap ∧ Row1 W a len (fun i => .string ((ss : List ByteArray).getD i ByteArray.empty)) ∧ ss.length = len ∧ sizes ss + ss.length ≤ Rows.uptoBulk d ∧ len ≤ cap := by
  obtain ⟨a0, len, cap, rfl⟩ := okWide_slice Try.underlying82 hval
  obtain ⟨fuel, hf⟩ := h
  rcases open_strings Try.underlying82 Try.underlying9 (by kernel_rfl) hf with ⟨hcs, hx⟩ | ⟨x, l, c, ss, hcs, _, hl, hm, hz, hx, hcell, hws⟩
  · simp [Value.cells] at hcs
    obtain ⟨rfl, rfl, rfl⟩ := hcs
    exact ⟨none, 0, 0, [], rfl, ⟨by omega, .inl rfl⟩, rfl, by simp [sizes]⟩
  · simp [Value.cells] at hcs
    obtain ⟨rfl, rfl, rfl⟩ := hcs
    simp only [Prod.mk.injEq] at hx
    obtain ⟨rfl, rfl⟩ := hx
    simp only [if_true] at hz
    refine ⟨some x, len, cap, ss.take len, rfl, ?_, by simp; omega, ?_⟩
    · refine row1_of (n := len) (Nat.le_refl _) (by omega) fun i hi => ?_
      rw [hcell i (by omega)]
      have hi' : i < ss.length := by omega
      congr 2
      simp [List.getD, hi, hi']
    · have := bulk_strs (H := H) (ss.take len)
      simp only [Rows.uptoBulk]
      omega

set_option maxRecDepth 100000 in
/-- .. where the form's reach is handed in, too. -/
theorem open_textsr {ts : List TypeId} {ds : List (DataW H)} {j : Nat} (hval : Value.okWide Try.prog W .any base 82 v) (h : DataW.Trod enc Try.prog W 0 (fun _ => true) true 82 v d p)
    (hsz : (DataW.weightsEach Try.prog ts ds).all (· ≤ reachBytes) = true) (ht : ts[j]? = some 82) (hd : ds[j]? = some d) :
    ∃ a len cap ss, v = .slice a len cap ∧ Row1 W a len (fun i => .string ((ss : List ByteArray).getD i ByteArray.empty)) ∧ ss.length = len ∧ len ≤ cap := by
  obtain ⟨a, len, cap, ss, h1, h2, h3, _, h5⟩ := open_textsc hval h
  exact ⟨a, len, cap, ss, h1, h2, h3, h5⟩
end
end Go.Proofs.Ythliofijioghkaa

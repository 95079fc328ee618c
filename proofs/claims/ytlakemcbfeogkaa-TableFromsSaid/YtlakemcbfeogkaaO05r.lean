/- Arguments opened with the form's reach alone: slices of texts, of pairs. -/
import Derived.Test.YtlakemcbfeogkaaO05
namespace Go.Proofs.Ytlakemcbfeogkaa
open Go.ChangeShapes Go.WideShapes Go.ChangeAt Go.RowKit Go.Deep
set_option linter.unusedVariables false

theorem weightsAll_mem {H : Type} {P : Program} {e : TypeId} {d : DataW H} : ∀ {l : List (DataW H)}, d ∈ l → ∀ n ∈ d.weights P e, n ∈ DataW.weightsAll P e l
  | x :: r, h, n, hn => by
    unfold DataW.weightsAll
    rcases List.mem_cons.1 h with rfl | h
    · exact List.mem_append_left _ hn
    · exact List.mem_append_right _ (weightsAll_mem h n hn)

section
variable {H : Type} {enc : TypeId × Value → H} {W : World} {base : Nat} {v : Value} {d : DataW H} {p : List MemPlace}

set_option maxRecDepth 100000 in
/-- A slice of texts, each no longer than the reach. -/
theorem open_textsz {ts : List TypeId} {ds : List (DataW H)} {j : Nat} (hval : Value.okWide Try.prog W .any base 69 v) (h : DataW.Trod enc Try.prog W 0 (fun _ => true) true 69 v d p)
    (hsz : (DataW.weightsEach Try.prog ts ds).all (· ≤ reachBytes) = true) (ht : ts[j]? = some 69) (hd : ds[j]? = some d) :
    ∃ a len cap ss, v = .slice a len cap ∧ Row1 W a len (fun i => .string ((ss : List ByteArray).getD i ByteArray.empty)) ∧ ss.length = len ∧ len ≤ cap ∧ ∀ i, (ss.getD i ByteArray.empty).size ≤ 140737488351232 := by
  obtain ⟨a0, len, cap, rfl⟩ := okWide_slice Try.underlying69 hval
  obtain ⟨fuel, hf⟩ := h
  rcases open_strings Try.underlying69 Try.underlying9 (by kernel_rfl) hf with ⟨hcs, hx⟩ | ⟨x, l, c, ss, hcs, _, hl, hm, hz, hx, hcell, hws⟩
  · simp [Value.cells] at hcs
    obtain ⟨rfl, rfl, rfl⟩ := hcs
    exact ⟨none, 0, 0, [], rfl, ⟨by omega, .inl rfl⟩, rfl, Nat.le_refl _, fun i => by simp⟩
  · simp [Value.cells] at hcs
    obtain ⟨rfl, rfl, rfl⟩ := hcs
    simp only [Prod.mk.injEq] at hx
    obtain ⟨rfl, rfl⟩ := hx
    simp only [if_true] at hz
    refine ⟨some x, len, cap, ss.take len, rfl, ?_, by simp; omega, hl, fun i => ?_⟩
    · refine row1_of (n := len) (Nat.le_refl _) (by omega) fun i hi => ?_
      rw [hcell i (by omega)]
      have hi' : i < ss.length := by omega
      congr 2
      simp [List.getD, hi, hi']
    · by_cases hi : i < (ss.take len).length
      · have he : (ss.take len).getD i ByteArray.empty = (ss.take len)[i] := by simp [List.getD, List.getElem?_eq_getElem hi]
        rw [he]
        have hm : (DataW.lit (.string (ss.take len)[i].data.toList) : DataW H) ∈ strs (ss.take len) := List.mem_map.2 ⟨_, List.getElem_mem hi, rfl⟩
        have := List.all_eq_true.1 hsz _ (DataW.weights_mem_each ht hd (ss.take len)[i].data.toList.length (by
          simp only [DataW.weights, Try.underlying69, List.mem_cons]
          exact .inr (List.mem_append_left _ (weightsAll_mem hm _ (by simp [DataW.weights])))))
        simpa [reachBytes] using this
      · have he : (ss.take len).getD i ByteArray.empty = ByteArray.empty := by
          unfold List.getD
          rw [List.getElem?_eq_none (by omega)]
          rfl
        rw [he]
        simp

theorem bytesPair : Try.prog.bytesOf 39 = 40 := by kernel_rfl

set_option maxRecDepth 100000 in
/-- A slice of pairs: how many there can be. -/
theorem open_pairsr {ts : List TypeId} {ds : List (DataW H)} {j : Nat} (hval : Value.okWide Try.prog W .any base 22 v) (h : DataW.Trod enc Try.prog W 0 (fun _ => true) true 22 v d p)
    (hsz : (DataW.weightsEach Try.prog ts ds).all (· ≤ reachBytes) = true) (ht : ts[j]? = some 22) (hd : ds[j]? = some d) :
    ∃ a cap ps, v = .slice a (List.length ps) cap ∧ ReadP W v ps ∧ ps.length ≤ 3518437208780 ∧ ∀ x ∈ ps, x.key.size ≤ maxLen := by
  obtain ⟨a, cap, ps, e, h1, _, h2⟩ := open_pairs hval h
  refine ⟨a, cap, ps, e, h1, ?_, h2⟩
  obtain ⟨fuel, hf⟩ := h
  rw [e] at hf
  have hf' : DataW.trod enc Try.prog W 0 (fun _ => true) true fuel 22 [.slice a ps.length cap] = some (d, p) := by simpa [Value.cells] using hf
  rcases rows_open Try.underlying22 Try.underlying39 (by kernel_rfl) (by kernel_rfl) hf' with ⟨g1, g2⟩ | ⟨a', len, cap', D, rest, g1, g2, g3, g4, g5⟩
  · injection g1 with e1 e2 e3
    omega
  · injection g1 with e1 e2 e3
    have g4' : d = .slice ((List.range len).map D) rest := g4
    have hw := sized_slice (e := 39) hsz ht (by rw [← g4']; exact hd) Try.underlying22
    rw [bytesPair, List.length_map, List.length_range] at hw
    unfold reachBytes at hw
    omega

set_option maxRecDepth 100000 in
/-- .. and that they fit the slice's capacity. -/
theorem open_pairsrc {ts : List TypeId} {ds : List (DataW H)} {j : Nat} (hval : Value.okWide Try.prog W .any base 22 v) (h : DataW.Trod enc Try.prog W 0 (fun _ => true) true 22 v d p)
    (hsz : (DataW.weightsEach Try.prog ts ds).all (· ≤ reachBytes) = true) (ht : ts[j]? = some 22) (hd : ds[j]? = some d) :
    ∃ a cap ps, v = .slice a (List.length ps) cap ∧ ReadP W v ps ∧ ps.length ≤ 3518437208780 ∧ (∀ x ∈ ps, x.key.size ≤ maxLen) ∧ ps.length ≤ cap := by
  obtain ⟨a, cap, ps, e, h1, h2, h3⟩ := open_pairsr hval h hsz ht hd
  refine ⟨a, cap, ps, e, h1, h2, h3, ?_⟩
  obtain ⟨fuel, hf⟩ := h
  rw [e] at hf
  have hf' : DataW.trod enc Try.prog W 0 (fun _ => true) true fuel 22 [.slice a ps.length cap] = some (d, p) := by simpa [Value.cells] using hf
  rcases rows_open Try.underlying22 Try.underlying39 (by kernel_rfl) (by kernel_rfl) hf' with ⟨g1, g2⟩ | ⟨a', len, cap', D, rest, g1, g2, g3, g4, g5⟩
  · injection g1 with e1 e2 e3
    omega
  · injection g1 with e1 e2 e3
    omega
end
end Go.Proofs.Ytlakemcbfeogkaa

/- Arguments opened with the form's reach alone: slices of texts, of pairs. -/
import Derived.Test.YtebiipmaimdocaaO05
namespace Go.Proofs.Ytebiipmaimdocaa
open Go.ChangeShapes Go.WideShapes Go.ChangeAt Go.RowKit Go.Deep
set_option linter.unusedVariables false

theorem weightsAll_mem {H : Type} {P : Program} {e : TypeId} {d : DataW H} : ∀ {l : List (DataW H)}, d ∈ l → ∀ n ∈ d.weights P e, n ∈ DataW.weightsAll P e l
  | x :: r, h, n, hn => by
    unfold DataW.weightsAll
    rcases List.mem_cons.1 h with rfl | h
    · exact List.mem_append_left _ hn
    · exact List.mem_append_right _ (weightsAll_mem h n hn)

section
variable {H : Type} {enc : TypeId × Value → H} {W : World} {base : Nat} {v : Value} {d : DataW H} {p : List MemPlace}

theorem bytesPair : Try.prog.bytesOf 29 = 40 := by kernel_rfl

set_option maxRecDepth 100000 in
/-- A slice of pairs: how many there can be. -/
theorem open_pairsr {ts : List TypeId} {ds : List (DataW H)} {j : Nat} (hval : Value.okWide Try.prog W .any base 26 v) (h : DataW.Trod enc Try.prog W 0 (fun _ => true) true 26 v d p)
    (hsz : (DataW.weightsEach Try.prog ts ds).all (· ≤ reachBytes) = true) (ht : ts[j]? = some 26) (hd : ds[j]? = some d) :
    ∃ a cap ps, v = .slice a (List.length ps) cap ∧ ReadP W v ps ∧ ps.length ≤ 3518437208780 ∧ ∀ x ∈ ps, x.key.size ≤ maxLen := by
  obtain ⟨a, cap, ps, e, h1, _, h2⟩ := open_pairs hval h
  refine ⟨a, cap, ps, e, h1, ?_, h2⟩
  obtain ⟨fuel, hf⟩ := h
  rw [e] at hf
  have hf' : DataW.trod enc Try.prog W 0 (fun _ => true) true fuel 26 [.slice a ps.length cap] = some (d, p) := by simpa [Value.cells] using hf
  rcases rows_open Try.underlying26 Try.underlying29 (by kernel_rfl) (by kernel_rfl) hf' with ⟨g1, g2⟩ | ⟨a', len, cap', D, rest, g1, g2, g3, g4, g5⟩
  · injection g1 with e1 e2 e3
    omega
  · injection g1 with e1 e2 e3
    have g4' : d = .slice ((List.range len).map D) rest := g4
    have hw := sized_slice (e := 29) hsz ht (by rw [← g4']; exact hd) Try.underlying26
    rw [bytesPair, List.length_map, List.length_range] at hw
    unfold reachBytes at hw
    omega

set_option maxRecDepth 100000 in
/-- .. and that they fit the slice's capacity. -/
theorem open_pairsrc {ts : List TypeId} {ds : List (DataW H)} {j : Nat} (hval : Value.okWide Try.prog W .any base 26 v) (h : DataW.Trod enc Try.prog W 0 (fun _ => true) true 26 v d p)
    (hsz : (DataW.weightsEach Try.prog ts ds).all (· ≤ reachBytes) = true) (ht : ts[j]? = some 26) (hd : ds[j]? = some d) :
    ∃ a cap ps, v = .slice a (List.length ps) cap ∧ ReadP W v ps ∧ ps.length ≤ 3518437208780 ∧ (∀ x ∈ ps, x.key.size ≤ maxLen) ∧ ps.length ≤ cap := by
  obtain ⟨a, cap, ps, e, h1, h2, h3⟩ := open_pairsr hval h hsz ht hd
  refine ⟨a, cap, ps, e, h1, h2, h3, ?_⟩
  obtain ⟨fuel, hf⟩ := h
  rw [e] at hf
  have hf' : DataW.trod enc Try.prog W 0 (fun _ => true) true fuel 26 [.slice a ps.length cap] = some (d, p) := by simpa [Value.cells] using hf
  rcases rows_open Try.underlying26 Try.underlying29 (by kernel_rfl) (by kernel_rfl) hf' with ⟨g1, g2⟩ | ⟨a', len, cap', D, rest, g1, g2, g3, g4, g5⟩
  · injection g1 with e1 e2 e3
    omega
  · injection g1 with e1 e2 e3
    omega
end
end Go.Proofs.Ytebiipmaimdocaa

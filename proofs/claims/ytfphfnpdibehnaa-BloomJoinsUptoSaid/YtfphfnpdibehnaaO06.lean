/- Arguments of layer 6's laws, opened. -/
import Derived.Test.YtfphfnpdibehnaaOB
import Derived.Test.YtfphfnpdibehnaaK06
import Derived.Deep.Slices
import Derived.Lib.SmallJoins
namespace Go.Proofs.Ytfphfnpdibehnaa
open Go.ChangeShapes Go.WideShapes Go.ChangeAt Go.RowKit Go.Deep
set_option linter.unusedVariables false

theorem weightsAll_in {H : Type} {P : Program} {e : TypeId} {d : DataW H} : ∀ {l : List (DataW H)}, d ∈ l → ∀ n ∈ d.weights P e, n ∈ DataW.weightsAll P e l
  | x :: r, h, n, hn => by
    unfold DataW.weightsAll
    rcases List.mem_cons.1 h with rfl | h
    · exact List.mem_append_left _ hn
    · exact List.mem_append_right _ (weightsAll_in h n hn)
theorem size_le_all : ∀ (l : List ByteArray) (i : Nat), (l.getD i ByteArray.empty).size ≤ sizes l
  | [], i => by simp
  | s :: r, 0 => by rw [sizes_cons]; simp
  | s :: r, i + 1 => by
    have := size_le_all r i
    rw [sizes_cons]
    have e : (s :: r).getD (i + 1) ByteArray.empty = r.getD i ByteArray.empty := by simp [List.getD]
    rw [e]; omega

section
variable {H : Type} {enc : TypeId × Value → H} {W : World} {base : Nat} {v : Value} {d : DataW H} {p : List MemPlace}

set_option maxRecDepth 100000 in
/-- Texts that came in; their sizes by the form's reach, or by the bulk. -/
theorem keys_open {fuel : Nat} {x : DataW H × List MemPlace} (hf : DataW.trod enc Try.prog W 0 (fun _ => true) true fuel 22 [v] = some x) :
    ∃ a c ks, v = .slice a (List.length ks) c ∧ Row1 W a ks.length (fun i => .string ((ks : List ByteArray).getD i ByteArray.empty)) ∧ (a = none → c = 0) ∧ sizes ks + ks.length ≤ Rows.uptoBulk x.1 ∧
      ((∀ n ∈ x.1.weights Try.prog 22, n ≤ reachBytes) → ∀ i, (ks.getD i ByteArray.empty).size ≤ 140737488351232) := by
  rcases open_strings Try.underlying22 Try.underlying9 (by kernel_rfl) hf with ⟨hcs, hx⟩ | ⟨x0, l, c, ss, hcs, _, hl, hm, hz, hx, hcell, hws⟩
  · simp at hcs
    subst hcs
    exact ⟨none, 0, [], rfl, ⟨by simp, .inl rfl⟩, fun _ => rfl, by simp [sizes], fun _ i => by simp⟩
  · simp at hcs
    subst hcs
    subst hx
    simp only [if_true] at hz
    have hlen : (ss.take l).length = l := by rw [List.length_take]; omega
    refine ⟨some x0, c, ss.take l, by rw [hlen], ?_, (fun e => by cases e), ?_, fun hw i => ?_⟩
    · rw [hlen]
      refine row1_of (n := l) (Nat.le_refl _) (by omega) fun i hi => ?_
      rw [hcell i (by omega)]
      have hi' : i < ss.length := by omega
      congr 2
      simp [List.getD, hi, hi']
    · have := bulk_strs (H := H) (ss.take l)
      simp only [Rows.uptoBulk]
      omega
    · by_cases hi : i < (ss.take l).length
      · have he : (ss.take l).getD i ByteArray.empty = (ss.take l)[i] := by simp [List.getD, List.getElem?_eq_getElem hi]
        rw [he]
        have hm : (DataW.lit (.string (ss.take l)[i].data.toList) : DataW H) ∈ strs (ss.take l) := List.mem_map.2 ⟨_, List.getElem_mem hi, rfl⟩
        have := hw (ss.take l)[i].data.toList.length (by
          simp only [DataW.weights, Try.underlying22, List.mem_cons]
          exact .inr (List.mem_append_left _ (weightsAll_in hm _ (by simp [DataW.weights]))))
        simpa [reachBytes] using this
      · have he : (ss.take l).getD i ByteArray.empty = ByteArray.empty := by
          unfold List.getD
          rw [List.getElem?_eq_none (by omega)]
          rfl
        rw [he]
        simp

theorem weights_of {ts : List TypeId} {ds : List (DataW H)} {j : Nat} {t : TypeId} (hsz : (DataW.weightsEach Try.prog ts ds).all (· ≤ reachBytes) = true) (ht : ts[j]? = some t) (hd : ds[j]? = some d) : ∀ n ∈ d.weights Try.prog t, n ≤ reachBytes := fun n hn => by
  have := List.all_eq_true.1 hsz _ (DataW.weights_mem_each ht hd n hn)
  simpa using this

/-- A slice of texts, with the reach. -/
theorem open_keys {ts : List TypeId} {ds : List (DataW H)} {j : Nat} (hval : Value.okWide Try.prog W .any base 22 v) (h : DataW.Trod enc Try.prog W 0 (fun _ => true) true 22 v d p)
    (hsz : (DataW.weightsEach Try.prog ts ds).all (· ≤ reachBytes) = true) (ht : ts[j]? = some 22) (hd : ds[j]? = some d) :
    ∃ a c ks, v = .slice a (List.length ks) c ∧ Keys6 W a ks := by
  obtain ⟨a0, len, cap, rfl⟩ := okWide_slice Try.underlying22 hval
  obtain ⟨fuel, hf⟩ := h
  have hf' : DataW.trod enc Try.prog W 0 (fun _ => true) true fuel 22 [.slice a0 len cap] = some (d, p) := by simpa [Value.cells] using hf
  obtain ⟨a, c, ks, e, hr, _, _, hs⟩ := keys_open hf'
  exact ⟨a, c, ks, e, hr, hs (weights_of hsz ht hd)⟩
/-- .. with the bulk. -/
theorem open_keysu (hval : Value.okWide Try.prog W .any base 22 v) (h : DataW.Trod enc Try.prog W 0 (fun _ => true) true 22 v d p) :
    ∃ a c ks, v = .slice a (List.length ks) c ∧ Row1 W a ks.length (fun i => .string ((ks : List ByteArray).getD i ByteArray.empty)) ∧ (a = none → c = 0) ∧ sizes ks + ks.length ≤ Rows.uptoBulk d := by
  obtain ⟨a0, len, cap, rfl⟩ := okWide_slice Try.underlying22 hval
  obtain ⟨fuel, hf⟩ := h
  have hf' : DataW.trod enc Try.prog W 0 (fun _ => true) true fuel 22 [.slice a0 len cap] = some (d, p) := by simpa [Value.cells] using hf
  obtain ⟨a, c, ks, e, hr, hn, hb, _⟩ := keys_open hf'
  exact ⟨a, c, ks, e, hr, hn, hb⟩
theorem keys6_of {a : Option Addr} {ks : List ByteArray} (h : Row1 W a ks.length (fun i => .string (ks.getD i ByteArray.empty))) (hb : sizes ks ≤ 140737488351232) : Keys6 W a ks := ⟨h, fun i => Nat.le_trans (size_le_all ks i) hb⟩

set_option maxRecDepth 100000 in
theorem open_asked {ts : List TypeId} {ds : List (DataW H)} {j : Nat} (hval : Value.okWide Try.prog W .any base 24 v) (h : DataW.Trod enc Try.prog W 0 (fun _ => true) true 24 v d p)
    (hsz : (DataW.weightsEach Try.prog ts ds).all (· ≤ reachBytes) = true) (ht : ts[j]? = some 24) (hd : ds[j]? = some d) :
    ∃ a c ks n key filter, v = .agg #[.slice a (List.length ks) c, .int .i64 n, .string key, .string filter] ∧ Keys6 W a ks ∧ (Lit.int .i64 n).wf = true ∧ key.size ≤ 140737488351232 ∧ filter.size ≤ 140737488351232 := by
  have hw := weights_of hsz ht hd
  obtain ⟨v0, v1, v2, v3, y0, y1, y2, y3, n, rfl, rfl, _, t0, t1, t2, t3⟩ := Joins.open_agg4 Try.underlying24 (by kernel_rfl) (by kernel_rfl) hval h
  have hs : ∀ (n : Nat), n ∈ DataW.weightsEach Try.prog [22, 3, 9, 9] [y0.1, y1.1, y2.1, y3.1] → n ≤ reachBytes := by
    have e : DataW.weights Try.prog 24 (DataW.agg [y0.1, y1.1, y2.1, y3.1]) = DataW.weightsEach Try.prog [22, 3, 9, 9] [y0.1, y1.1, y2.1, y3.1] := by
      simp only [DataW.weights, Try.underlying24]
      rfl
    rw [← e]; exact hw
  obtain ⟨a, c, ks, rfl, hR, _, _, hz⟩ := keys_open t0
  obtain ⟨m, e1, e1d, w1⟩ := DataW.trod_int Try.underlying3 t1
  obtain ⟨key, e2, e2d, w2⟩ := DataW.trod_string Try.underlying9 t2
  obtain ⟨filter, e3, e3d, w3⟩ := DataW.trod_string Try.underlying9 t3
  simp only [List.cons.injEq, and_true] at e1 e2 e3
  subst e1; subst e2; subst e3
  have s0 := hz (fun n hn => hs n (DataW.weights_mem_each (j := 0) rfl rfl n hn))
  have s2 := hs key.data.toList.length (DataW.weights_mem_each (j := 2) (d := y2.1) rfl rfl _ (by rw [e2d]; simp [DataW.weights]))
  have s3 := hs filter.data.toList.length (DataW.weights_mem_each (j := 3) (d := y3.1) rfl rfl _ (by rw [e3d]; simp [DataW.weights]))
  refine ⟨a, c, ks, m, key, filter, rfl, ⟨hR, s0⟩, w1, by simpa [reachBytes] using s2, by simpa [reachBytes] using s3⟩

set_option maxRecDepth 100000 in
theorem open_mored (hval : Value.okWide Try.prog W .any base 38 v) (h : DataW.Trod enc Try.prog W 0 (fun _ => true) true 38 v d p) :
    ∃ a0 c0 ks a1 c1 ms n a2 c2 qs, v = .agg #[.slice a0 (List.length ks) c0, .slice a1 (List.length ms) c1, .int .i64 n, .slice a2 (List.length qs) c2] ∧ (Lit.int .i64 n).wf = true ∧
      Row1 W a0 ks.length (fun i => .string ((ks : List ByteArray).getD i ByteArray.empty)) ∧ Row1 W a1 ms.length (fun i => .string ((ms : List ByteArray).getD i ByteArray.empty)) ∧ Row1 W a2 qs.length (fun i => .string ((qs : List ByteArray).getD i ByteArray.empty)) ∧
      (a0 = none → c0 = 0) ∧ (a1 = none → c1 = 0) ∧ sizes ks + ks.length + (sizes ms + ms.length) + (sizes qs + qs.length) ≤ Rows.uptoBulk d := by
  obtain ⟨v0, v1, v2, v3, y0, y1, y2, y3, n, rfl, rfl, _, t0, t1, t2, t3⟩ := Joins.open_agg4 Try.underlying38 (by kernel_rfl) (by kernel_rfl) hval h
  obtain ⟨a0, c0, ks, rfl, hR0, n0, b0, _⟩ := keys_open t0
  obtain ⟨a1, c1, ms, rfl, hR1, n1, b1, _⟩ := keys_open t1
  obtain ⟨m, e2, e2d, w2⟩ := DataW.trod_int Try.underlying3 t2
  obtain ⟨a2, c2, qs, rfl, hR2, n2, b2, _⟩ := keys_open t3
  simp only [List.cons.injEq, and_true] at e2
  subst e2
  refine ⟨a0, c0, ks, a1, c1, ms, m, a2, c2, qs, rfl, w2, hR0, hR1, hR2, n0, n1, ?_⟩
  simp only [Rows.uptoBulk, Rows.uptoBulkAll]
  omega
end
end Go.Proofs.Ytfphfnpdibehnaa

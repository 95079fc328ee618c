/- Slices of texts that came in, with how many they are, opened. -/
import Derived.Test.YtfnbkmmfaaklnaaDoorOB
import Derived.Deep.Slices
namespace Go.Proofs.YtfnbkmmfaaklnaaDoor
open Go.ChangeShapes Go.WideShapes Go.ChangeAt Go.RowKit Go.Deep
set_option linter.unusedVariables false

theorem weightsAll_of {H : Type} {P : Program} {e : TypeId} {d : DataW H} : ∀ {l : List (DataW H)}, d ∈ l → ∀ n ∈ d.weights P e, n ∈ DataW.weightsAll P e l
  | x :: r, h, n, hn => by
    unfold DataW.weightsAll
    rcases List.mem_cons.1 h with rfl | h
    · exact List.mem_append_left _ hn
    · exact List.mem_append_right _ (weightsAll_of h n hn)
theorem bytesStr : Tryd.prog.bytesOf 9 = 16 := by kernel_rfl

section
variable {H : Type} {enc : TypeId × Value → H} {W : World} {base : Nat} {v : Value} {d : DataW H} {p : List MemPlace}

set_option maxRecDepth 100000 in
theorem hosts_open {fuel : Nat} {x : DataW H × List MemPlace} (hf : DataW.trod enc Tryd.prog W 0 (fun _ => true) true fuel 22 [v] = some x) :
    ∃ a c ks, v = .slice a (List.length ks) c ∧ Row1 W a ks.length (fun i => .string ((ks : List ByteArray).getD i ByteArray.empty)) ∧ (a = none → c = 0) ∧ ks.length ≤ c ∧ sizes ks + ks.length ≤ Rows.uptoBulk x.1 ∧
      ((∀ n ∈ x.1.weights Tryd.prog 22, n ≤ reachBytes) → (∀ i, (ks.getD i ByteArray.empty).size ≤ 140737488351232) ∧ ks.length * 16 ≤ 140737488351232) := by
  rcases open_strings Tryd.underlying22 Tryd.underlying9 (by kernel_rfl) hf with ⟨hcs, hx⟩ | ⟨x0, l, c, ss, hcs, _, hl, hm, hz, hx, hcell, hws⟩
  · simp at hcs
    subst hcs
    exact ⟨none, 0, [], rfl, ⟨by simp, .inl rfl⟩, fun _ => rfl, Nat.le_refl _, by simp [sizes], fun _ => ⟨fun i => by simp, by simp⟩⟩
  · simp at hcs
    subst hcs
    subst hx
    simp only [if_true] at hz
    have hlen : (ss.take l).length = l := by rw [List.length_take]; omega
    refine ⟨some x0, c, ss.take l, by rw [hlen], ?_, (fun e => by cases e), by rw [hlen]; exact hl, ?_, fun hw => ⟨fun i => ?_, ?_⟩⟩
    · rw [hlen]
      refine row1_of (n := l) (Nat.le_refl _) (by omega) fun i hi => ?_
      rw [hcell i (by omega)]
      have hi' : i < ss.length := by omega
      congr 2
      simp [List.getD, hi, hi']
    · have := bulk_strs (H := H) (ss.take l)
      simp only [Rows.uptoBulk]
      omega
    · by_cases hi : i < (ss.take l).length
      · have he : (ss.take l).getD i ByteArray.empty = (ss.take l)[i] := by simp [List.getD, List.getElem?_eq_getElem hi]
        rw [he]
        have hm : (DataW.lit (.string (ss.take l)[i].data.toList) : DataW H) ∈ strs (ss.take l) := List.mem_map.2 ⟨_, List.getElem_mem hi, rfl⟩
        have := hw (ss.take l)[i].data.toList.length (by
          simp only [DataW.weights, Tryd.underlying22, List.mem_cons]
          exact .inr (List.mem_append_left _ (weightsAll_of hm _ (by simp [DataW.weights]))))
        simpa [reachBytes] using this
      · have he : (ss.take l).getD i ByteArray.empty = ByteArray.empty := by
          unfold List.getD
          rw [List.getElem?_eq_none (by omega)]
          rfl
        rw [he]
        simp
    · have h0 := hw _ (by simp only [DataW.weights, Tryd.underlying22, List.mem_cons]; exact .inl rfl)
      rw [bytesStr] at h0
      have h1 : (strs (H := H) (ss.take l)).length = l := by unfold strs; rw [List.length_map, hlen]
      rw [h1] at h0
      rw [hlen]
      unfold reachBytes at h0
      generalize List.length _ = z at h0
      have h2 : l * 16 ≤ (l + z) * 16 := by omega
      omega
theorem open_hosts {ts : List TypeId} {ds : List (DataW H)} {j : Nat} (hval : Value.okWide Tryd.prog W .any base 22 v) (h : DataW.Trod enc Tryd.prog W 0 (fun _ => true) true 22 v d p)
    (hsz : (DataW.weightsEach Tryd.prog ts ds).all (· ≤ reachBytes) = true) (ht : ts[j]? = some 22) (hd : ds[j]? = some d) :
    ∃ a c ks, v = .slice a (List.length ks) c ∧ Row1 W a ks.length (fun i => .string ((ks : List ByteArray).getD i ByteArray.empty)) ∧ (a = none → c = 0) ∧ (∀ i, (ks.getD i ByteArray.empty).size ≤ 140737488351232) ∧ ks.length * 16 ≤ 140737488351232 := by
  obtain ⟨a0, len, cap, rfl⟩ := okWide_slice Tryd.underlying22 hval
  obtain ⟨fuel, hf⟩ := h
  have hf' : DataW.trod enc Tryd.prog W 0 (fun _ => true) true fuel 22 [.slice a0 len cap] = some (d, p) := by simpa [Value.cells] using hf
  obtain ⟨a, c, ks, e, hr, hn, _, _, hs⟩ := hosts_open hf'
  obtain ⟨h1, h2⟩ := hs fun n hn => by
    have := List.all_eq_true.1 hsz _ (DataW.weights_mem_each ht hd n hn)
    simpa using this
  exact ⟨a, c, ks, e, hr, hn, h1, h2⟩
theorem size_le_sizesD : ∀ (l : List ByteArray) (i : Nat), (l.getD i ByteArray.empty).size ≤ sizes l
  | [], i => by simp
  | s :: r, 0 => by rw [sizes_cons]; simp
  | s :: r, i + 1 => by
    have := size_le_sizesD r i
    rw [sizes_cons]
    have e : (s :: r).getD (i + 1) ByteArray.empty = r.getD i ByteArray.empty := by simp [List.getD]
    rw [e]; omega
/-- .. with the bulk. -/
theorem open_hostsu (hval : Value.okWide Tryd.prog W .any base 22 v) (h : DataW.Trod enc Tryd.prog W 0 (fun _ => true) true 22 v d p) :
    ∃ a c ks, v = .slice a (List.length ks) c ∧ Row1 W a ks.length (fun i => .string ((ks : List ByteArray).getD i ByteArray.empty)) ∧ (a = none → c = 0) ∧ ks.length ≤ c ∧ sizes ks + ks.length ≤ Rows.uptoBulk d := by
  obtain ⟨a0, len, cap, rfl⟩ := okWide_slice Tryd.underlying22 hval
  obtain ⟨fuel, hf⟩ := h
  have hf' : DataW.trod enc Tryd.prog W 0 (fun _ => true) true fuel 22 [.slice a0 len cap] = some (d, p) := by simpa [Value.cells] using hf
  obtain ⟨a, c, ks, e, hr, hn, hc, hb, _⟩ := hosts_open hf'
  exact ⟨a, c, ks, e, hr, hn, hc, hb⟩
end
end Go.Proofs.YtfnbkmmfaaklnaaDoor

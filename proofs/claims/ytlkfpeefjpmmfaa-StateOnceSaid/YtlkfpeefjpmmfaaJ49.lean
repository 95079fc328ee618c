/- Joined: O13 O14. -/
import Derived.Test.YtlkfpeefjpmmfaaJ48
import Derived.Test.YtlkfpeefjpmmfaaJ46
import Derived.Deep.Slices
import Derived.Lib.SmallJoins

namespace Go.Proofs.Ytlkfpeefjpmmfaa
open Go.ChangeShapes Go.WideShapes Go.ChangeAt Go.RowKit Go.Deep
set_option linter.unusedVariables false

theorem choose_ltE {α : Type} [Inhabited α] {n : Nat} {p : Nat → α → Prop} (h : ∀ i, i < n → ∃ a, p i a) : ∃ f : Nat → α, ∀ i, i < n → p i (f i) := by
  refine ⟨fun i => if hi : i < n then (h i hi).choose else default, fun i hi => ?_⟩
  simp only [dif_pos hi]
  exact (h i hi).choose_spec
instance : Inhabited EvS := ⟨EvS.zero⟩
theorem weightsAll_E {H : Type} {P : Program} {e : TypeId} {d : DataW H} : ∀ {l : List (DataW H)}, d ∈ l → ∀ n ∈ d.weights P e, n ∈ DataW.weightsAll P e l
  | x :: r, h, n, hn => by
    unfold DataW.weightsAll
    rcases List.mem_cons.1 h with rfl | h
    · exact List.mem_append_left _ hn
    · exact List.mem_append_right _ (weightsAll_E h n hn)

section
variable {H : Type} {enc : TypeId × Value → H} {W : World} {base : Nat} {v : Value} {d : DataW H} {p : List MemPlace}

set_option maxRecDepth 100000 in
theorem events_open {fuel : Nat} {u : Value} {y : DataW H × List MemPlace} (hf : DataW.trod enc Try.prog W 0 (fun _ => true) true fuel 22 [u] = some y) :
    ∃ a cap l, u = .slice a (List.length l) cap ∧ ReadE W u l ∧ (a = none → cap = 0 ∧ l = []) ∧ ((∀ n ∈ y.1.weights Try.prog 22, n ≤ reachBytes) → ∀ x ∈ l, x.data.size ≤ 140737488351232) := by
  rcases rows_open Try.underlying22 Try.underlying39 (by kernel_rfl) (by kernel_rfl) hf with ⟨h1, h2⟩ | ⟨a, len0, cap0, D, rest, h1, h2, h3, h4, h5⟩
  · subst h1
    exact ⟨none, 0, [], rfl, ReadE.nil W, fun _ => ⟨rfl, rfl⟩, fun _ x hx => by cases hx⟩
  · subst h1
    have each : ∀ i, i < len0 → ∃ x : EvS, (∀ j u, x.cells[j]? = some u → W.cell? (a.add (i * 8 + j)) = some u) ∧ x.data.size ≤ maxLen ∧ x.data.size ∈ (D i).weights Try.prog 39 := fun i hi => by
      obtain ⟨vs, ys, n, hvl, hyl, hD, hcell, hfld⟩ := h5 i hi
      match vs, hvl, ys, hyl with
      | [v0, v1, v2, v3, v4, v5, v6, v7], _, [y0, y1, y2, y3, y4, y5, y6, y7], _ =>
        obtain ⟨u0, z0, eu0, ez0, t0⟩ := hfld 0 _ rfl
        obtain ⟨u1, z1, eu1, ez1, t1⟩ := hfld 1 _ rfl
        obtain ⟨u2, z2, eu2, ez2, t2⟩ := hfld 2 _ rfl
        obtain ⟨u3, z3, eu3, ez3, t3⟩ := hfld 3 _ rfl
        obtain ⟨u4, z4, eu4, ez4, t4⟩ := hfld 4 _ rfl
        obtain ⟨u5, z5, eu5, ez5, t5⟩ := hfld 5 _ rfl
        obtain ⟨u6, z6, eu6, ez6, t6⟩ := hfld 6 _ rfl
        obtain ⟨u7, z7, eu7, ez7, t7⟩ := hfld 7 _ rfl
        simp only [List.getElem?_cons_zero, List.getElem?_cons_succ, Option.some.injEq] at eu0 ez0 eu1 ez1 eu2 ez2 eu3 ez3 eu4 ez4 eu5 ez5 eu6 ez6 eu7 ez7
        subst eu0; subst ez0; subst eu1; subst ez1; subst eu2; subst ez2; subst eu3; subst ez3; subst eu4; subst ez4; subst eu5; subst ez5; subst eu6; subst ez6; subst eu7; subst ez7
        obtain ⟨n0, e0, _, _⟩ := DataW.trod_int Try.underlying3 t0
        obtain ⟨n1, e1, _, _⟩ := DataW.trod_int Try.underlying3 t1
        obtain ⟨n2, e2, _, _⟩ := DataW.trod_int Try.underlying3 t2
        obtain ⟨n3, e3, _, _⟩ := DataW.trod_int Try.underlying3 t3
        obtain ⟨n4, e4, _, _⟩ := DataW.trod_int Try.underlying3 t4
        obtain ⟨n5, e5, _, _⟩ := DataW.trod_int Try.underlying3 t5
        obtain ⟨b6, e6, _⟩ := DataW.trod_bool Try.underlying4 t6
        obtain ⟨s7, e7, f7, w7⟩ := DataW.trod_string Try.underlying9 t7
        simp only [List.cons.injEq, and_true] at e0 e1 e2 e3 e4 e5 e6 e7
        subst e0; subst e1; subst e2; subst e3; subst e4; subst e5; subst e6; subst e7
        refine ⟨⟨n0, n1, n2, n3, n4, n5, b6, s7⟩, fun j u hu => ?_, w7, ?_⟩
        · have hj : j < 8 := (List.getElem?_eq_some_iff.1 hu).1
          match j, hj, hu with
          | 0, _, hu => injection hu with hu; subst hu; exact hcell 0 (by simp)
          | 1, _, hu => injection hu with hu; subst hu; exact hcell 1 (by simp)
          | 2, _, hu => injection hu with hu; subst hu; exact hcell 2 (by simp)
          | 3, _, hu => injection hu with hu; subst hu; exact hcell 3 (by simp)
          | 4, _, hu => injection hu with hu; subst hu; exact hcell 4 (by simp)
          | 5, _, hu => injection hu with hu; subst hu; exact hcell 5 (by simp)
          | 6, _, hu => injection hu with hu; subst hu; exact hcell 6 (by simp)
          | 7, _, hu => injection hu with hu; subst hu; exact hcell 7 (by simp)
        · rw [hD]
          simp only [DataW.weights, Try.underlying39]
          exact DataW.weights_mem_each (j := 7) (t := 9) (d := y7.1) rfl rfl _ (by rw [f7]; simp [DataW.weights])
    obtain ⟨q, hq⟩ := choose_ltE each
    have hl : ((List.range len0).map q).length = len0 := by simp
    refine ⟨some a, cap0, (List.range len0).map q, by rw [hl], ⟨by rw [hl]; omega, fun x hx => ?_, some a, cap0, by rw [hl], ?_⟩, (fun e => by cases e), fun hw x hx => ?_⟩
    · obtain ⟨i, hi, rfl⟩ := List.mem_map.1 hx
      exact (hq i (List.mem_range.1 hi)).2.1
    · by_cases h0 : len0 = 0
      · exact .inl (List.eq_nil_of_length_eq_zero (by rw [hl]; exact h0))
      · obtain ⟨b, off, spot⟩ := a
        have h00 := (hq 0 (by omega)).1 0 _ rfl
        have hspot : spot = none := by simpa [Addr.add] using World.cell?_spot h00
        subst hspot
        refine .inr ⟨b, off, rfl, fun i hi j u hu => ?_⟩
        rw [hl] at hi
        simp only [List.getElem_map, List.getElem_range] at hu
        have := (hq i hi).1 j u hu
        rw [Addr.add_lit] at this
        rw [Nat.add_assoc]
        exact this
    · obtain ⟨i, hi, rfl⟩ := List.mem_map.1 hx
      have hi := List.mem_range.1 hi
      have h6 : y.1 = .slice ((List.range len0).map D) rest := h4
      rw [h6] at hw
      have := hw _ (by
        simp only [DataW.weights, Try.underlying22, List.mem_cons]
        exact .inr (List.mem_append_left _ (weightsAll_E (List.mem_map.2 ⟨i, List.mem_range.2 hi, rfl⟩) _ (hq i hi).2.2)))
      simpa [reachBytes] using this
theorem weights_ofE {ts : List TypeId} {ds : List (DataW H)} {j : Nat} {t : TypeId} (hsz : (DataW.weightsEach Try.prog ts ds).all (· ≤ reachBytes) = true) (ht : ts[j]? = some t) (hd : ds[j]? = some d) : ∀ n ∈ d.weights Try.prog t, n ≤ reachBytes := fun n hn => by
  have := List.all_eq_true.1 hsz _ (DataW.weights_mem_each ht hd n hn)
  simpa using this

set_option maxRecDepth 100000 in
/-- Events that came in. -/
theorem open_events {ts : List TypeId} {ds : List (DataW H)} {j : Nat} (hval : Value.okWide Try.prog W .any base 22 v) (h : DataW.Trod enc Try.prog W 0 (fun _ => true) true 22 v d p)
    (hsz : (DataW.weightsEach Try.prog ts ds).all (· ≤ reachBytes) = true) (ht : ts[j]? = some 22) (hd : ds[j]? = some d) :
    ∃ a c l, v = .slice a (List.length l) c ∧ ReadE W (.slice a l.length c) l ∧ (a = none → c = 0 ∧ l = []) ∧ ∀ x ∈ l, x.data.size ≤ 140737488351232 := by
  obtain ⟨a0, len, cap, rfl⟩ := okWide_slice Try.underlying22 hval
  obtain ⟨fuel, hf⟩ := h
  have hf' : DataW.trod enc Try.prog W 0 (fun _ => true) true fuel 22 [.slice a0 len cap] = some (d, p) := by simpa [Value.cells] using hf
  obtain ⟨a, c, l, e, hr, hn, hs⟩ := events_open hf'
  exact ⟨a, c, l, e, by rw [← e]; exact hr, hn, hs (weights_ofE hsz ht hd)⟩

set_option maxRecDepth 100000 in
/-- An event that came in. -/
theorem open_ev {ts : List TypeId} {ds : List (DataW H)} {j : Nat} (hval : Value.okWide Try.prog W .any base 39 v) (h : DataW.Trod enc Try.prog W 0 (fun _ => true) true 39 v d p)
    (hsz : (DataW.weightsEach Try.prog ts ds).all (· ≤ reachBytes) = true) (ht : ts[j]? = some 39) (hd : ds[j]? = some d) :
    ∃ e : EvS, v = e.val' ∧ e.data.size ≤ 140737488351232 := by
  have hw := weights_ofE hsz ht hd
  obtain ⟨cs, rfl, hcs⟩ := okWide_struct Try.underlying39 hval
  have h8 : cs.size = 8 := hcs.trans (by kernel_rfl)
  obtain ⟨fuel, hf⟩ := h
  obtain ⟨ys, k, _, hD, hl2, hl3, hfl⟩ := DataW.trod_struct Try.underlying39 hf
  match hcl : cs.toList, (show cs.toList.length = 8 by simpa using h8), ys, hl3 with
  | [v0, v1, v2, v3, v4, v5, v6, v7], _, [y0, y1, y2, y3, y4, y5, y6, y7], _ =>
    have hce : cs = #[v0, v1, v2, v3, v4, v5, v6, v7] := by rw [← hcl]
    subst hce
    have ci : Try.prog.cellsOf 3 = 1 := by kernel_rfl
    have cb : Try.prog.cellsOf 4 = 1 := by kernel_rfl
    have cS : Try.prog.cellsOf 9 = 1 := by kernel_rfl
    have t0 := hfl 0 _ rfl
    change DataW.trod enc Try.prog W 0 (fun _ => true) true k 3 (List.take (Try.prog.cellsOf 3) [v0, v1, v2, v3, v4, v5, v6, v7]) = some y0 at t0
    rw [ci] at t0
    have t1 := hfl 1 _ rfl
    change DataW.trod enc Try.prog W 0 (fun _ => true) true k 3 (List.take (Try.prog.cellsOf 3) [v1, v2, v3, v4, v5, v6, v7]) = some y1 at t1
    rw [ci] at t1
    have t2 := hfl 2 _ rfl
    change DataW.trod enc Try.prog W 0 (fun _ => true) true k 3 (List.take (Try.prog.cellsOf 3) [v2, v3, v4, v5, v6, v7]) = some y2 at t2
    rw [ci] at t2
    have t3 := hfl 3 _ rfl
    change DataW.trod enc Try.prog W 0 (fun _ => true) true k 3 (List.take (Try.prog.cellsOf 3) [v3, v4, v5, v6, v7]) = some y3 at t3
    rw [ci] at t3
    have t4 := hfl 4 _ rfl
    change DataW.trod enc Try.prog W 0 (fun _ => true) true k 3 (List.take (Try.prog.cellsOf 3) [v4, v5, v6, v7]) = some y4 at t4
    rw [ci] at t4
    have t5 := hfl 5 _ rfl
    change DataW.trod enc Try.prog W 0 (fun _ => true) true k 3 (List.take (Try.prog.cellsOf 3) [v5, v6, v7]) = some y5 at t5
    rw [ci] at t5
    have t6 := hfl 6 _ rfl
    change DataW.trod enc Try.prog W 0 (fun _ => true) true k 4 (List.take (Try.prog.cellsOf 4) [v6, v7]) = some y6 at t6
    rw [cb] at t6
    have t7 := hfl 7 _ rfl
    change DataW.trod enc Try.prog W 0 (fun _ => true) true k 9 (List.take (Try.prog.cellsOf 9) [v7]) = some y7 at t7
    rw [cS] at t7
    obtain ⟨n0, e0, _, _⟩ := DataW.trod_int Try.underlying3 t0
    obtain ⟨n1, e1, _, _⟩ := DataW.trod_int Try.underlying3 t1
    obtain ⟨n2, e2, _, _⟩ := DataW.trod_int Try.underlying3 t2
    obtain ⟨n3, e3, _, _⟩ := DataW.trod_int Try.underlying3 t3
    obtain ⟨n4, e4, _, _⟩ := DataW.trod_int Try.underlying3 t4
    obtain ⟨n5, e5, _, _⟩ := DataW.trod_int Try.underlying3 t5
    obtain ⟨b6, e6, _⟩ := DataW.trod_bool Try.underlying4 t6
    obtain ⟨s7, e7, f7, w7⟩ := DataW.trod_string Try.underlying9 t7
    simp only [List.take_succ_cons, List.take_zero, List.cons.injEq, and_true] at e0 e1 e2 e3 e4 e5 e6 e7
    subst e0; subst e1; subst e2; subst e3; subst e4; subst e5; subst e6; subst e7
    refine ⟨⟨n0, n1, n2, n3, n4, n5, b6, s7⟩, rfl, ?_⟩
    have hd2 : d = .agg ([y0, y1, y2, y3, y4, y5, y6, y7].map (·.1)) := congrArg Prod.fst hD
    rw [hd2] at hw
    have := hw s7.data.toList.length (by
      simp only [DataW.weights, Try.underlying39]
      exact DataW.weights_mem_each (j := 7) (t := 9) (d := y7.1) rfl rfl _ (by rw [f7]; simp [DataW.weights]))
    simpa [reachBytes] using this
end
end Go.Proofs.Ytlkfpeefjpmmfaa

namespace Go.Proofs.Ytlkfpeefjpmmfaa
open Go.ChangeShapes Go.WideShapes Go.ChangeAt Go.RowKit
set_option linter.unusedVariables false

section
variable {H : Type} {enc : TypeId × Value → H} {W : World} {base : Nat} {v : Value} {d : DataW H} {p : List MemPlace}
set_option maxRecDepth 100000 in
theorem open_eventsc {ts : List TypeId} {ds : List (DataW H)} {j : Nat} (hval : Value.okWide Try.prog W .any base 22 v) (h : DataW.Trod enc Try.prog W 0 (fun _ => true) true 22 v d p)
    (hsz : (DataW.weightsEach Try.prog ts ds).all (· ≤ reachBytes) = true) (ht : ts[j]? = some 22) (hd : ds[j]? = some d) :
    ∃ a c l, v = .slice a (List.length l) c ∧ ReadE W (.slice a l.length c) l ∧ (List.length l ≤ c ∧ (a = none → c = 0 ∧ l = [])) ∧ ∀ x ∈ l, x.data.size ≤ 140737488351232 := by
  obtain ⟨a, c, l, e, hr, hn, hs⟩ := open_events hval h hsz ht hd
  refine ⟨a, c, l, e, hr, ⟨?_, hn⟩, hs⟩
  subst e
  obtain ⟨fuel, hf⟩ := h
  have hf' : DataW.trod enc Try.prog W 0 (fun _ => true) true fuel 22 [.slice a l.length c] = some (d, p) := by simpa [Value.cells] using hf
  rcases rows_open Try.underlying22 Try.underlying39 (by kernel_rfl) (by kernel_rfl) hf' with ⟨h1, _⟩ | ⟨a', len, cap, D, rest, h1, h2, _⟩
  · injection h1 with _ e2 e3
    omega
  · injection h1 with _ e2 e3
    omega
end
end Go.Proofs.Ytlkfpeefjpmmfaa

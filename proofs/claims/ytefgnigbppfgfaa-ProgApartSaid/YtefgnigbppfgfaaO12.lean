/- Arguments of layer 12's laws, opened: programs. -/
import Derived.Test.YtefgnigbppfgfaaOF
import Derived.Test.YtefgnigbppfgfaaK12
import Derived.Deep.Slices
import Derived.Lib.SmallJoins
namespace Go.Proofs.Ytefgnigbppfgfaa
open Go.ChangeShapes Go.WideShapes Go.ChangeAt Go.RowKit Go.Deep
set_option linter.unusedVariables false

theorem choose_ltG {α : Type} [Inhabited α] {n : Nat} {p : Nat → α → Prop} (h : ∀ i, i < n → ∃ a, p i a) : ∃ f : Nat → α, ∀ i, i < n → p i (f i) := by
  refine ⟨fun i => if hi : i < n then (h i hi).choose else default, fun i hi => ?_⟩
  simp only [dif_pos hi]
  exact (h i hi).choose_spec
instance : Inhabited StepS := ⟨⟨0, ⟨#[]⟩, ⟨#[]⟩, 0, 0, 0⟩⟩
theorem bytesStep : Try.prog.bytesOf 40 = 64 := by kernel_rfl
theorem weights_ofG {H : Type} {d : DataW H} {ts : List TypeId} {ds : List (DataW H)} {j : Nat} {t : TypeId} (hsz : (DataW.weightsEach Try.prog ts ds).all (· ≤ reachBytes) = true) (ht : ts[j]? = some t) (hd : ds[j]? = some d) : ∀ n ∈ d.weights Try.prog t, n ≤ reachBytes := fun n hn => by
  have := List.all_eq_true.1 hsz _ (DataW.weights_mem_each ht hd n hn)
  simpa using this

section
variable {H : Type} {enc : TypeId × Value → H} {W : World} {base : Nat} {v : Value} {d : DataW H} {p : List MemPlace}

set_option maxRecDepth 100000 in
theorem steps_open {fuel : Nat} {u : Value} {y : DataW H × List MemPlace} (hf : DataW.trod enc Try.prog W 0 (fun _ => true) true fuel 22 [u] = some y) :
    ∃ a cap l, u = .slice a (List.length l) cap ∧ ReadG W u l ∧ (a = none → cap = 0 ∧ l = []) ∧ ((∀ n ∈ y.1.weights Try.prog 22, n ≤ reachBytes) → l.length ≤ 2199023255552) := by
  rcases rows_open Try.underlying22 Try.underlying40 (by kernel_rfl) (by kernel_rfl) hf with ⟨h1, h2⟩ | ⟨a, len0, cap0, D, rest, h1, h2, h3, h4, h5⟩
  · subst h1
    exact ⟨none, 0, [], rfl, ReadG.nil W, fun _ => ⟨rfl, rfl⟩, fun _ => Nat.zero_le _⟩
  · subst h1
    have each : ∀ i, i < len0 → ∃ x : StepS, (∀ j u, x.cells[j]? = some u → W.cell? (a.add (i * 6 + j)) = some u) ∧ x.name.size ≤ maxLen ∧ x.undo.size ≤ maxLen := fun i hi => by
      obtain ⟨vs, ys, n, hvl, hyl, hD, hcell, hfld⟩ := h5 i hi
      match vs, hvl, ys, hyl with
      | [v0, v1, v2, v3, v4, v5], _, [y0, y1, y2, y3, y4, y5], _ =>
        obtain ⟨u0, z0, eu0, ez0, t0⟩ := hfld 0 _ rfl
        obtain ⟨u1, z1, eu1, ez1, t1⟩ := hfld 1 _ rfl
        obtain ⟨u2, z2, eu2, ez2, t2⟩ := hfld 2 _ rfl
        obtain ⟨u3, z3, eu3, ez3, t3⟩ := hfld 3 _ rfl
        obtain ⟨u4, z4, eu4, ez4, t4⟩ := hfld 4 _ rfl
        obtain ⟨u5, z5, eu5, ez5, t5⟩ := hfld 5 _ rfl
        simp only [List.getElem?_cons_zero, List.getElem?_cons_succ, Option.some.injEq] at eu0 ez0 eu1 ez1 eu2 ez2 eu3 ez3 eu4 ez4 eu5 ez5
        subst eu0; subst ez0; subst eu1; subst ez1; subst eu2; subst ez2; subst eu3; subst ez3; subst eu4; subst ez4; subst eu5; subst ez5
        obtain ⟨n0, e0, _, _⟩ := DataW.trod_int Try.underlying3 t0
        obtain ⟨s1, e1, _, w1⟩ := DataW.trod_string Try.underlying9 t1
        obtain ⟨s2, e2, _, w2⟩ := DataW.trod_string Try.underlying9 t2
        obtain ⟨n3, e3, _, _⟩ := DataW.trod_int Try.underlying3 t3
        obtain ⟨n4, e4, _, _⟩ := DataW.trod_int Try.underlying3 t4
        obtain ⟨n5, e5, _, _⟩ := DataW.trod_int Try.underlying3 t5
        simp only [List.cons.injEq, and_true] at e0 e1 e2 e3 e4 e5
        subst e0; subst e1; subst e2; subst e3; subst e4; subst e5
        refine ⟨⟨n0, s1, s2, n3, n4, n5⟩, fun j u hu => ?_, w1, w2⟩
        have hj : j < 6 := (List.getElem?_eq_some_iff.1 hu).1
        match j, hj, hu with
        | 0, _, hu => injection hu with hu; subst hu; exact hcell 0 (by simp)
        | 1, _, hu => injection hu with hu; subst hu; exact hcell 1 (by simp)
        | 2, _, hu => injection hu with hu; subst hu; exact hcell 2 (by simp)
        | 3, _, hu => injection hu with hu; subst hu; exact hcell 3 (by simp)
        | 4, _, hu => injection hu with hu; subst hu; exact hcell 4 (by simp)
        | 5, _, hu => injection hu with hu; subst hu; exact hcell 5 (by simp)
    obtain ⟨q, hq⟩ := choose_ltG each
    have hl : ((List.range len0).map q).length = len0 := by simp
    refine ⟨some a, cap0, (List.range len0).map q, by rw [hl], ⟨by rw [hl]; omega, fun x hx => ?_, some a, cap0, by rw [hl], ?_⟩, (fun e => by cases e), fun hw => ?_⟩
    · obtain ⟨i, hi, rfl⟩ := List.mem_map.1 hx
      exact (hq i (List.mem_range.1 hi)).2
    · by_cases h0 : len0 = 0
      · exact .inl (List.eq_nil_of_length_eq_zero (by rw [hl]; exact h0))
      · obtain ⟨b, off, spot⟩ := a
        have h00 := (hq 0 (by omega)).1 0 _ rfl
        have hspot : spot = none := by simpa [Addr.add] using World.cell?_spot h00
        subst hspot
        refine .inr ⟨b, off, rfl, fun i hi j u hu => ?_⟩
        rw [hl] at hi
        simp only [List.getElem_map, List.getElem_range] at hu
        have := (hq i hi).1 j u hu
        rw [Addr.add_lit] at this
        rw [Nat.add_assoc]
        exact this
    · rw [hl]
      have h6 : y.1 = .slice ((List.range len0).map D) rest := h4
      rw [h6] at hw
      have := hw ((((List.range len0).map D).length + rest.length) * Try.prog.bytesOf 40) (by simp [DataW.weights, Try.underlying22])
      rw [bytesStep, List.length_map, List.length_range] at this
      unfold reachBytes at this
      omega

set_option maxRecDepth 100000 in
/-- A program that came in. -/
theorem open_prog {ts : List TypeId} {ds : List (DataW H)} {j : Nat} (hval : Value.okWide Try.prog W .any base 24 v) (h : DataW.Trod enc Try.prog W 0 (fun _ => true) true 24 v d p)
    (hsz : (DataW.weightsEach Try.prog ts ds).all (· ≤ reachBytes) = true) (ht : ts[j]? = some 24) (hd : ds[j]? = some d) :
    ∃ (a : Option Addr) (c : Nat) (q : ProgS), v = q.val' a c ∧ ReadG W (.slice a q.steps.length c) q.steps ∧ (a = none → c = 0 ∧ q.steps = []) ∧ q.steps.length ≤ 2199023255552 := by
  have hw := weights_ofG hsz ht hd
  obtain ⟨v0, v1, y0, y1, n, rfl, rfl, _, t0, t1⟩ := Joins.open_agg2 Try.underlying24 (by kernel_rfl) (by kernel_rfl) hval h
  have hs : ∀ (n : Nat), n ∈ DataW.weightsEach Try.prog [22, 3] [y0.1, y1.1] → n ≤ reachBytes := by
    have e : DataW.weights Try.prog 24 (DataW.agg [y0.1, y1.1]) = DataW.weightsEach Try.prog [22, 3] [y0.1, y1.1] := by
      simp only [DataW.weights, Try.underlying24]
      rfl
    rw [← e]; exact hw
  obtain ⟨a, c, l, rfl, hR, hn, hb⟩ := steps_open t0
  obtain ⟨m, e1, _, _⟩ := DataW.trod_int Try.underlying3 t1
  simp only [List.cons.injEq, and_true] at e1
  subst e1
  exact ⟨a, c, ⟨l, m⟩, rfl, hR, hn, hb (fun n hn => hs n (DataW.weights_mem_each (j := 0) rfl rfl n hn))⟩
end
end Go.Proofs.Ytefgnigbppfgfaa

/- The calls of layer 3's laws, opened. -/
import Derived.Test.YtnjphflaggefeaaOF
import Derived.Test.YtnjphflaggefeaaO03
import Derived.Test.YtnjphflaggefeaaM03c
namespace Go.Proofs.Ytnjphflaggefeaa
open Go.ChangeShapes Go.WideShapes Go.ChangeAt Go.RowKit Go.Deep
set_option linter.unusedVariables false

section
variable {H : Type} {enc : TypeId × Value → H} {W : World} {base : Nat} {v : Value} {d : DataW H} {p : List MemPlace}

set_option maxRecDepth 100000 in
theorem open_calls (hval : Value.okWide Try.prog W .any base 22 v) (h : DataW.Trod enc Try.prog W 0 (fun _ => true) true 22 v d p) :
    ∃ a len cap cs, v = .slice a len cap ∧ CallsRow W a cs ∧ cs.length = len ∧ callsW cs ≤ Rows.uptoBulk d := by
  obtain ⟨a0, len0, cap0, rfl⟩ := okWide_slice Try.underlying22 hval
  obtain ⟨fuel, hf⟩ := h
  have hf' : DataW.trod enc Try.prog W 0 (fun _ => true) true fuel 22 [.slice a0 len0 cap0] = some (d, p) := by simpa [Value.cells] using hf
  rcases rows_open Try.underlying22 Try.underlying30 (by kernel_rfl) (by kernel_rfl) hf' with ⟨h1, h2⟩ | ⟨a, len, cap, D, rest, h1, h2, h3, h4, h5⟩
  · injection h1 with e1 e2 e3
    subst e1; subst e2; subst e3
    exact ⟨none, 0, 0, [], rfl, ⟨by decide, .inl rfl⟩, rfl, by simp [callsW]⟩
  · injection h1 with e1 e2 e3
    subst e1; subst e2; subst e3
    have each : ∀ i, i < len0 → ∃ c : CallS, CallCells W a i c ∧ CallOK W c ∧ c.name.size + c.data.size + c.ks.length + 1 ≤ Rows.uptoBulk (D i) := fun i hi => by
      obtain ⟨vs, ys, n, hvl, hyl, hD, hcell, hfld⟩ := h5 i hi
      match vs, hvl, ys, hyl with
      | [v0, v1, v2, v3, v4], _, [y0, y1, y2, y3, y4], _ =>
        obtain ⟨u0, z0, eu0, ez0, t0⟩ := hfld 0 _ rfl
        obtain ⟨u1, z1, eu1, ez1, t1⟩ := hfld 1 _ rfl
        obtain ⟨u2, z2, eu2, ez2, t2⟩ := hfld 2 _ rfl
        obtain ⟨u3, z3, eu3, ez3, t3⟩ := hfld 3 _ rfl
        obtain ⟨u4, z4, eu4, ez4, t4⟩ := hfld 4 _ rfl
        simp only [List.getElem?_cons_zero, List.getElem?_cons_succ, Option.some.injEq] at eu0 ez0 eu1 ez1 eu2 ez2 eu3 ez3 eu4 ez4
        subst eu0; subst ez0; subst eu1; subst ez1; subst eu2; subst ez2; subst eu3; subst ez3; subst eu4; subst ez4
        obtain ⟨k, ek, ekd, wk⟩ := DataW.trod_int Try.underlying3 t0
        obtain ⟨s1, es1, es1d, ws1⟩ := DataW.trod_string Try.underlying9 t1
        obtain ⟨s2, es2, es2d, ws2⟩ := DataW.trod_string Try.underlying9 t2
        obtain ⟨k3, ek3, ek3d, wk3⟩ := DataW.trod_int Try.underlying3 t3
        obtain ⟨ks, hks, hkb⟩ := keep_open t4
        simp only [List.cons.injEq, and_true] at ek es1 es2 ek3
        subst ek; subst es1; subst es2; subst ek3
        refine ⟨⟨k, s1, s2, k3, v4, ks⟩, ⟨?_, ?_, ?_, ?_, ?_⟩, ⟨bounds_i64 wk, bounds_i64 wk3, hks⟩, ?_⟩
        · simpa using hcell 0 (by simp)
        · simpa using hcell 1 (by simp)
        · simpa using hcell 2 (by simp)
        · simpa using hcell 3 (by simp)
        · simpa using hcell 4 (by simp)
        · rw [hD]
          subst ekd; subst es1d; subst es2d; subst ek3d
          simp only [List.map_cons, List.map_nil, Rows.uptoBulk, Rows.uptoBulkAll, Array.length_toList]
          show s1.data.size + s2.data.size + _ + 1 ≤ _
          omega
    obtain ⟨q, hq⟩ := choose_lt (α := CallS) each
    have hl : ((List.range len0).map q).length = len0 := by simp
    refine ⟨some a, len0, cap0, (List.range len0).map q, rfl, ⟨by rw [hl]; unfold maxLen at h3; omega, ?_⟩, hl, ?_⟩
    · by_cases h0 : len0 = 0
      · exact .inl (by rw [hl]; exact h0)
      · obtain ⟨b, off, spot⟩ := a
        have h00 := (hq 0 (by omega)).1.c0
        have hspot : spot = none := by simpa [Addr.add] using World.cell?_spot h00
        subst hspot
        refine .inr ⟨b, off, rfl, World.block_lt_of_cell? W _ h00, fun i hi => ?_⟩
        rw [hl] at hi
        have := hq i hi
        simp only [List.getElem_map, List.getElem_range]
        exact ⟨this.1, this.2.1⟩
    · have hx : d = .slice ((List.range len0).map D) rest := h4
      rw [hx]
      simp only [Rows.uptoBulk]
      have := bulk_map D (fun i => (q i).name.size + (q i).data.size + (q i).ks.length + 1) (List.range len0) (fun i hi => (hq i (List.mem_range.1 hi)).2.2)
      unfold callsW
      rw [List.map_map]
      show ((List.range len0).map fun i => (q i).name.size + (q i).data.size + (q i).ks.length + 1).sum ≤ _
      omega
end
end Go.Proofs.Ytnjphflaggefeaa

/- Layer 4, plain facts: a box with fuel without end; what Drop makes of the segments. -/
import Derived.Test.YtlgpkbcefaldoaaDoorM04b
namespace Go.Proofs.YtlgpkbcefaldoaaDoor
set_option linter.unusedVariables false

/-- A box that is up, and has fuel without end. -/
structure Up (S : Bx) : Prop where
  up : S.down = false
  fuel : S.fuel = -1
theorem Up.new : Up Bx.new := ⟨rfl, rfl⟩
theorem Up.crash (S : Bx) (keep : List Int) : Up (S.crash keep) := ⟨rfl, rfl⟩
section
variable {S : Bx}
theorem Up.change (h : Up S) (l : List (Key × FileS)) : (S.change l).2 = 0 ∧ Up (S.change l).1 ∧ (S.change l).1.files = l := by
  rw [Bx.change_yes (by rw [h.fuel]; decide)]
  exact ⟨rfl, ⟨h.up, by show S.burnt.fuel = -1; unfold Bx.burnt; rw [h.fuel]; rfl⟩, rfl⟩
theorem Up.append (h : Up S) {n : Key} (hn : nameOK n = true) (x : List UInt8) : (S.append n x).2 = 0 ∧ Up (S.append n x).1 := by
  rw [Bx.append_ok h.up hn]
  exact ⟨(h.change _).1, (h.change _).2.1⟩
theorem Up.append' (h : Up S) (n : Key) (x : List UInt8) : Up (S.append n x).1 := by
  cases hn : nameOK n with
  | true => exact (h.append hn x).2
  | false => rw [Bx.append_bad h.up hn]; exact h
theorem Up.sync (h : Up S) {n : Key} {f : FileS} (hf : findK n S.files = some f) : (S.sync n).2 = 0 ∧ Up (S.sync n).1 := by
  rw [Bx.sync_some h.up hf]
  exact ⟨(h.change _).1, (h.change _).2.1⟩
theorem Up.delete (h : Up S) {n : Key} {f : FileS} (hf : findK n S.files = some f) : (S.delete n).2 = 0 ∧ Up (S.delete n).1 ∧ (S.delete n).1.files = dropK n S.files := by
  rw [Bx.delete_some h.up hf]
  exact ⟨(h.change _).1, (h.change _).2.1, (h.change _).2.2⟩
end

/-- What Drop makes of a box. -/
def dropSegs (nm : Key) (upto : Int) : List Nat → Bx → Bx × Int
  | [], S => (S, 0)
  | n :: r, S => if upto < (n : Int) then (S, 0) else if (S.delete (segName nm n)).2 = 0 then dropSegs nm upto r (S.delete (segName nm n)).1 else S.delete (segName nm n)

theorem Bx.delete_sub (S : Bx) (n : Key) : ∀ x ∈ (S.delete n).1.files, x ∈ S.files := by
  intro x hx
  by_cases hd : S.down = true
  · rw [Bx.delete_down hd] at hx; exact hx
  · have hd' : S.down = false := by simpa using hd
    cases hf : findK n S.files with
    | none => rw [Bx.delete_none hd' hf] at hx; exact hx
    | some f =>
      rw [Bx.delete_some hd' hf] at hx
      by_cases h0 : S.fuel = 0
      · rw [Bx.change_no h0] at hx; exact hx
      · rw [Bx.change_yes h0] at hx
        exact (dropK_sub hx).1
theorem dropSegs_sub (nm : Key) (u : Int) : ∀ (ns : List Nat) (S : Bx), ∀ x ∈ (dropSegs nm u ns S).1.files, x ∈ S.files
  | [], S, x, hx => hx
  | n :: r, S, x, hx => by
    unfold dropSegs at hx
    split at hx
    · exact hx
    · split at hx
      · exact Bx.delete_sub S _ x (dropSegs_sub nm u r _ x hx)
      · exact Bx.delete_sub S _ x hx
theorem findK_segP {nm k : Key} (h : segNum nm k ≠ 0) (l : List (Key × FileS)) : findK k (segP nm l) = findK k l := by
  induction l with
  | nil => rfl
  | cons x r ih =>
    unfold segP at *
    rw [List.filter_cons, findK_cons]
    by_cases hx : segNum nm x.1 = 0
    · rw [if_neg (by simp [hx]), ih, if_neg (fun e => by rw [e] at hx; exact h hx)]
    · rw [if_pos (by simp [hx]), findK_cons, ih]

/-- Drop of a log whose box is up: the lowest k segments are gone. -/
theorem dropSegs_up {nm : Key} (u : Int) : ∀ (fs : List FileS) (i : Nat) (S : Bx), 1 ≤ i → i + fs.length ≤ 100000000 → Up S → segP nm S.files = segsL nm i fs →
    ∀ k, k = min fs.length (u + 1 - (i : Int)).toNat → (dropSegs nm u (List.range' i fs.length) S).2 = 0 ∧ Up (dropSegs nm u (List.range' i fs.length) S).1 ∧ segP nm (dropSegs nm u (List.range' i fs.length) S).1.files = segsL nm (i + k) (fs.drop k) ∧
      ∀ o, segNum nm o = 0 → findK o (dropSegs nm u (List.range' i fs.length) S).1.files = findK o S.files
  | [], i, S, _, _, hU, hS, k, hk => by
    have hk0 : k = 0 := by simpa using hk
    subst hk0
    exact ⟨rfl, hU, hS, fun _ _ => rfl⟩
  | f :: r, i, S, hi, hl, hU, hS, k, hk => by
    rw [List.length_cons] at hl hk ⊢
    rw [List.range'_succ]
    unfold dropSegs
    by_cases hu : u < (i : Int)
    · rw [if_pos hu]
      have hk0 : k = 0 := by omega
      subst hk0
      exact ⟨rfl, hU, hS, fun _ _ => rfl⟩
    · rw [if_neg hu]
      have hnum : segNum nm (segName nm i) = i := segNum_name nm (by omega)
      have hf : findK (segName nm i) S.files = some f := by
        rw [← findK_segP (nm := nm) (by omega), hS, segsL, findK_cons, if_pos rfl]
      obtain ⟨d1, d2, d3⟩ := hU.delete hf
      rw [if_pos d1]
      have hS2 : segP nm (S.delete (segName nm i)).1.files = segsL nm (i + 1) r := by
        rw [d3, segP_drop, hS]
        exact dropK_segsL i f r (by omega)
      obtain ⟨k', rfl⟩ : ∃ k', k = k' + 1 := ⟨k - 1, by omega⟩
      obtain ⟨g1, g2, g3, g4⟩ := dropSegs_up u r (i + 1) (S.delete (segName nm i)).1 (by omega) (by omega) d2 hS2 k' (by omega)
      refine ⟨g1, g2, ?_, fun o ho => ?_⟩
      · rw [g3, List.drop_succ_cons, show i + 1 + k' = i + (k' + 1) by omega]
      · rw [g4 o ho, d3, findK_drop, if_neg (fun e => by rw [← e, hnum] at ho; omega)]
theorem curOf_le {nm : Key} {l : List (Key × FileS)} {m : Nat} (h : ∀ n ∈ segsOf nm l, n ≤ m) : curOf nm l ≤ m + 1 := by
  unfold curOf
  rw [List.getLastD_eq_getLast?]
  cases hs : (segsOf nm l).getLast? with
  | none => simp
  | some a =>
    have := h a (List.mem_of_getLast? hs)
    simp only [Option.getD_some]
    omega
end Go.Proofs.YtlgpkbcefaldoaaDoor

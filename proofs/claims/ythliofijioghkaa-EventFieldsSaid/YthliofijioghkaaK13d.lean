/- Layer 13: the walk of EventFields, whatever the program. -/
import Derived.Test.YthliofijioghkaaK13
import Derived.Deep.RegionHeld3
namespace Go.Proofs.Ythliofijioghkaa
open Go.RowKit
set_option linter.unusedVariables false

def modE (m : Nat) (e : EvS) : EvS := match m with
  | 0 => { e with ref := 0 }
  | 1 => { e with step := 0 }
  | 2 => { e with tryN := 0 }
  | 3 => { e with undo := !e.undo }
  | _ => { e with data := ⟨#[]⟩ }
theorem shape_six {k : Int} (h1 : 1 ≤ k) (h2 : k ≤ 18) : (shapeL k).contains 115 = true → k = 6 ∨ k = 10 := by
  intro h
  obtain ⟨n, rfl⟩ : ∃ n : Nat, k = (n : Int) := ⟨k.toNat, by omega⟩
  have e : shapeL (n : Int) = shapeN n := rfl
  rw [e] at h
  unfold shapeN at h
  by_cases a6 : n = 6
  · exact .inl (by omega)
  by_cases a10 : n = 10
  · exact .inr (by omega)
  rw [if_neg a6, if_neg a10] at h
  split at h
  · simp at h
  split at h
  · simp at h
  split at h
  · simp at h
  split at h
  · simp at h
  · simp at h
theorem shape6 : shapeL 6 = [115, 117] := rfl
theorem shape10 : shapeL 10 = [115] := rfl
theorem okB_nil : okB [] = false := by
  cases h : okB [] with
  | false => rfl
  | true =>
    obtain ⟨p, hp, he⟩ := (okB_iff _).1 h
    have := congrArg List.length he
    unfold encProg at this
    simp only [List.length_append, List.length_nil] at this
    have := putL_pos p.limit.toNat
    omega
theorem name_nil : nameB ⟨#[]⟩ = false := by decide
/-- What becomes of an event by a field's being turned. -/
theorem mod_is {e : EvS} {m : Nat} (h : evB e = true) (hne : modE m e ≠ e) (hm : m < 5) :
    (e.kind = 6 ∧ (m = 1 ∨ m = 3) ∧ evB (modE m e) = true) ∨ (e.kind = 10 ∧ m = 1 ∧ evB (modE m e) = true) ∨ (e.kind = 10 ∧ m = 3 ∧ evB (modE m e) = false) ∨ (e.kind ≠ 6 ∧ e.kind ≠ 10 ∧ evB (modE m e) = false) := by
  have h := (evB_iff e).1 h
  obtain ⟨id, kind, tick, ref, step, tryN, undo, data⟩ := e
  have hnot : ∀ x : EvS, ¬ EvOK x → evB x = false := fun x hx => by
    cases hb : evB x with
    | false => rfl
    | true => exact absurd ((evB_iff x).1 hb) hx
  match m, hm with
  | 0, _ =>
    have hr : ref ≠ 0 := fun e => hne (by unfold modE; simp [e])
    have hc : (shapeL kind).contains 114 = true := by
      cases hc : (shapeL kind).contains 114 with
      | true => rfl
      | false => exact absurd (h.ref0 hc) hr
    refine .inr (.inr (.inr ⟨fun e => ?_, fun e => ?_, hnot _ fun hx => ?_⟩))
    · simp only at e; rw [e, shape6] at hc; simp at hc
    · simp only at e; rw [e, shape10] at hc; simp at hc
    · have := hx.ref hc
      have h1 : (1 : Int) ≤ 0 := this.1
      omega
  | 1, _ =>
    have hr : step ≠ 0 := fun e => hne (by unfold modE; simp [e])
    have hc : (shapeL kind).contains 115 = true := by
      cases hc : (shapeL kind).contains 115 with
      | true => rfl
      | false => exact absurd (h.step0 hc) hr
    have hok : evB (modE 1 ⟨id, kind, tick, ref, step, tryN, undo, data⟩) = true := (evB_iff _).2 ⟨h.kind, h.id, h.tick, h.ref, h.ref0, fun _ => ⟨Int.le_refl 0, by show (0 : Int) ≤ 15; omega⟩, fun _ => rfl, h.tryN, h.try0, h.undo, h.data⟩
    rcases shape_six h.kind.1 h.kind.2 hc with e | e
    · exact .inl ⟨e, .inl rfl, hok⟩
    · exact .inr (.inl ⟨e, rfl, hok⟩)
  | 2, _ =>
    have hr : tryN ≠ 0 := fun e => hne (by unfold modE; simp [e])
    have hc : (shapeL kind).contains 116 = true := by
      cases hc : (shapeL kind).contains 116 with
      | true => rfl
      | false => exact absurd (h.try0 hc) hr
    refine .inr (.inr (.inr ⟨fun e => ?_, fun e => ?_, hnot _ fun hx => ?_⟩))
    · simp only at e; rw [e, shape6] at hc; simp at hc
    · simp only at e; rw [e, shape10] at hc; simp at hc
    · have := hx.tryN hc
      have h1 : (1 : Int) ≤ 0 := this.1
      omega
  | 3, _ =>
    by_cases hs : shapeL kind = [115, 117]
    · have hc : (shapeL kind).contains 115 = true := by rw [hs]; rfl
      have hok : evB (modE 3 ⟨id, kind, tick, ref, step, tryN, undo, data⟩) = true := (evB_iff _).2 ⟨h.kind, h.id, h.tick, h.ref, h.ref0, h.step, h.step0, h.tryN, h.try0, fun hn => absurd hs hn, h.data⟩
      rcases shape_six h.kind.1 h.kind.2 hc with e | e
      · exact .inl ⟨e, .inr rfl, hok⟩
      · simp only at e; rw [e, shape10] at hs; simp at hs
    · have hu : undo = false := h.undo hs
      have hbad : evB (modE 3 ⟨id, kind, tick, ref, step, tryN, undo, data⟩) = false := hnot _ fun hx => by
        have := hx.undo hs
        rw [hu] at this
        cases this
      by_cases e : kind = 10
      · exact .inr (.inr (.inl ⟨e, rfl, hbad⟩))
      · refine .inr (.inr (.inr ⟨fun e6 => ?_, e, hbad⟩))
        simp only at e6
        rw [e6] at hs
        exact hs rfl
  | 4, _ =>
    have hr : data ≠ ⟨#[]⟩ := fun e => hne (by unfold modE; simp [e])
    have hd := h.data
    simp only at hd
    have hn : ∀ x : ByteArray, x.size = 0 → x = ⟨#[]⟩ := fun x hx => ba_zero hx
    have hf : shapeL kind = [112] ∨ shapeL kind = [110] := by
      unfold dataB at hd
      split at hd
      · next hp => exact .inl hp
      split at hd
      · next hp => exact .inr hp
      · exact absurd (hn data (of_decide_eq_true hd)) hr
    refine .inr (.inr (.inr ⟨fun e => ?_, fun e => ?_, hnot _ fun hx => ?_⟩))
    · simp only at e; rw [e, shape6] at hf; simp at hf
    · simp only at e; rw [e, shape10] at hf; simp at hf
    · have h2 : dataB (shapeL kind) ⟨#[]⟩ = true := hx.data
      unfold dataB at h2
      rcases hf with hf | hf
      · rw [hf, if_pos rfl] at h2
        have : okB [] = true := h2
        rw [okB_nil] at this
        cases this
      · rw [hf, if_neg (by decide), if_pos rfl, name_nil] at h2
        cases h2
theorem mod_key (which : Int) : ∃ m : Nat, m < 5 ∧ Hid ((wrap64 (which.tmod 5 + 5)).tmod 5 = (m : Int)) := by
  have h2 : (which.tmod 5).natAbs < 5 := by
    rw [Int.natAbs_tmod]
    exact Nat.mod_lt _ (by decide)
  rw [show wrap64 (which.tmod 5 + 5) = which.tmod 5 + 5 from IntWalk.wrap64_in _ (by omega)]
  refine ⟨((which.tmod 5 + 5).tmod 5).toNat, ?_, Lib.hid ?_⟩
  · rw [Int.tmod_eq_emod_of_nonneg (by omega)]; omega
  · rw [Int.tmod_eq_emod_of_nonneg (by omega)]; omega
end Go.Proofs.Ythliofijioghkaa

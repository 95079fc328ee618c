/- Layer 5's laws, whatever the table: a table and the reference's beside it. -/
import Derived.Test.YtmmamgnbonpkiaaDoorK05
import Derived.WalkArith
import Derived.Deep.CutBlock
import Derived.Deep.CutRange
import Derived.Deep.RegionHeld3
namespace Go.Proofs.YtmmamgnbonpkiaaDoor
open Go.RowKit Go.Maps Go.WideMaps
set_option linter.unusedVariables false

/-- A table and the reference's, apart from each other, all of the call's own. -/
structure TwoT (T : World → Nat → List PairS → (Nat → Prop) → Prop) (w wr : World) (p q : Nat) (l m : List PairS) (F G : Nat → Prop) : Prop where
  tab : T wr p l F
  ref : RTabAt wr q m G
  apart : ∀ j, F j → ¬ G j
  f : ∀ j, F j → w.heap.size ≤ j ∧ j < wr.heap.size
  g : ∀ j, G j → w.heap.size ≤ j ∧ j < wr.heap.size
  below : Below w.heap.size w wr

section
variable {T : World → Nat → List PairS → (Nat → Prop) → Prop} {w wr w' : World} {p q : Nat} {l m l' m' : List PairS} {F G : Nat → Prop}
theorem TwoT.later (K : MemK T) (h : TwoT T w wr p q l m F G) (hb : Below wr.heap.size wr w') : TwoT T w w' p q l m F G :=
  ⟨K.kept h.tab (Turn.of_below (fun _ => False) hb) (fun _ _ h => h), h.ref.below hb, h.apart, fun j hj => ⟨(h.f j hj).1, by have := (h.f j hj).2; have := hb.size; omega⟩, fun j hj => ⟨(h.g j hj).1, by have := (h.g j hj).2; have := hb.size; omega⟩, h.below.trans (hb.mono h.below.size)⟩
theorem TwoT.onTab (K : MemK T) (h : TwoT T w wr p q l m F G) (hb : T w' p l' (Grown F wr w')) (t : Turn F wr w') : TwoT T w w' p q l' m (Grown F wr w') G := by
  have hs := t.size
  have h0 := h.below.size
  refine ⟨hb, h.ref.kept t (fun j hj hf => h.apart j hf hj), fun j hj hg => ?_, fun j hj => ?_, fun j hj => ⟨(h.g j hj).1, by have := (h.g j hj).2; omega⟩, h.below.trans (t.below (fun j hj => (h.f j hj).1) h0)⟩
  · rcases hj with hj | hj
    · exact h.apart j hj hg
    · have := (h.g j hg).2; omega
  · rcases hj with hj | hj
    · exact ⟨(h.f j hj).1, by have := (h.f j hj).2; omega⟩
    · exact ⟨by omega, hj.2⟩
theorem TwoT.onRef (K : MemK T) (h : TwoT T w wr p q l m F G) (hb : RTabAt w' q m' (Grown G wr w')) (t : Turn G wr w') : TwoT T w w' p q l m' F (Grown G wr w') := by
  have hs := t.size
  have h0 := h.below.size
  refine ⟨K.kept h.tab t (fun j hj hg => h.apart j hj hg), hb, fun j hj hg => ?_, fun j hj => ⟨(h.f j hj).1, by have := (h.f j hj).2; omega⟩, fun j hj => ?_, h.below.trans (t.below (fun j hj => (h.g j hj).1) h0)⟩
  · rcases hg with hg | hg
    · exact h.apart j hj hg
    · have := (h.f j hj).2; omega
  · rcases hj with hj | hj
    · exact ⟨(h.g j hj).1, by have := (h.g j hj).2; omega⟩
    · exact ⟨by omega, hj.2⟩
end

/-- A cell that is not in F. -/
theorem cellT {F : Nat → Prop} {w w' : World} (t : Turn F w w') {b i : Nat} {v : Value} (h : w.cell? ⟨b, i, none⟩ = some v) (hf : ¬ F b) : w'.cell? ⟨b, i, none⟩ = some v :=
  (World.cell?_of_block (w := w) (t.block b (World.block_lt_of_cell? w ⟨b, i, none⟩ h) hf)).trans h
/-- A pair of the call's own, under way. -/
structure LocP (w : World) (b : Nat) (F G : Nat → Prop) (x : PairS) : Prop where
  c0 : w.cell? ⟨b, 0, none⟩ = some (.string x.key)
  c1 : w.cell? ⟨b, 1, none⟩ = some (.string x.val)
  c2 : w.cell? ⟨b, 2, none⟩ = some (.bool x.gone)
  nf : ¬ F b
  ng : ¬ G b
theorem LocP.lt {w : World} {b : Nat} {F G : Nat → Prop} {x : PairS} (h : LocP w b F G x) : b < w.heap.size := World.block_lt_of_cell? w ⟨b, 0, none⟩ h.c0
theorem LocP.onF {w w' : World} {b : Nat} {F G : Nat → Prop} {x : PairS} (h : LocP w b F G x) (t : Turn F w w') : LocP w' b (Grown F w w') G x :=
  ⟨cellT t h.c0 h.nf, cellT t h.c1 h.nf, cellT t h.c2 h.nf, fun hh => by have := h.lt; rcases hh with hh | hh; exact h.nf hh; omega, h.ng⟩
theorem LocP.onG {w w' : World} {b : Nat} {F G : Nat → Prop} {x : PairS} (h : LocP w b F G x) (t : Turn G w w') : LocP w' b F (Grown G w w') x :=
  ⟨cellT t h.c0 h.ng, cellT t h.c1 h.ng, cellT t h.c2 h.ng, h.nf, fun hh => by have := h.lt; rcases hh with hh | hh; exact h.ng hh; omega⟩
theorem LocP.later {w w' : World} {b : Nat} {F G : Nat → Prop} {x : PairS} (h : LocP w b F G x) (t : Below w.heap.size w w') : LocP w' b F G x :=
  ⟨(t.cell h.lt).trans h.c0, (t.cell h.lt).trans h.c1, (t.cell h.lt).trans h.c2, h.nf, h.ng⟩

/-- What the first pairs make of a table. -/
def putsP (ps : List PairS) : List PairS := ps.foldl (fun l x => putIf x l) []
theorem putsP_snoc (ps : List PairS) (x : PairS) : putsP (ps ++ [x]) = putIf x (putsP ps) := by simp [putsP]
theorem putsP_next {ps : List PairS} {k : Nat} (h : k < ps.length) : putsP (ps.take (k + 1)) = putIf ps[k] (putsP (ps.take k)) := by
  rw [List.take_succ_eq_append_getElem h, putsP_snoc]
theorem putIf_len (x : PairS) (l : List PairS) : (putIf x l).length ≤ l.length + 1 := by
  unfold putIf
  split
  · exact putP_len x l
  · omega
theorem putIf_size (x : PairS) (l : List PairS) : sizeP (putIf x l) ≤ sizeP l + (x.key.size + x.val.size) := by
  unfold putIf
  split
  · unfold putP
    rw [sizeP_append, sizeP_cons]
    have h1 : sizeP (l.take (placeP x.key l)) + sizeP (l.drop (placeP x.key l)) = sizeP l := by rw [← sizeP_append, List.take_append_drop]
    have h2 : sizeP (l.drop (placeP x.key l + if thereP x.key l then 1 else 0)) ≤ sizeP (l.drop (placeP x.key l)) := by
      rw [← List.drop_drop]
      exact sizeP_drop _ _
    omega
  · omega
theorem putIf_rising {x : PairS} {l : List PairS} (h : RisingP l) : RisingP (putIf x l) := by
  unfold putIf
  split
  · exact putP_rising h
  · exact h
theorem putsP_len : ∀ (ps : List PairS) (k : Nat), (putsP (ps.take k)).length ≤ k
  | ps, 0 => by simp [putsP]
  | ps, k + 1 => by
    have ih := putsP_len ps k
    by_cases h : k < ps.length
    · rw [putsP_next h]
      have := putIf_len ps[k] (putsP (ps.take k))
      omega
    · have e : ps.take (k + 1) = ps.take k := by rw [List.take_of_length_le (by omega), List.take_of_length_le (by omega)]
      rw [e]; omega
theorem putsP_size : ∀ (ps : List PairS) (k : Nat), sizeP (putsP (ps.take k)) ≤ sizeP (ps.take k)
  | ps, 0 => by simp [putsP, sizeP]
  | ps, k + 1 => by
    have ih := putsP_size ps k
    by_cases h : k < ps.length
    · rw [putsP_next h, sizeP_next h]
      have := putIf_size ps[k] (putsP (ps.take k))
      omega
    · have e : ps.take (k + 1) = ps.take k := by rw [List.take_of_length_le (by omega), List.take_of_length_le (by omega)]
      rw [e]; exact ih
/-- Each pair is one that may be. -/
def FineP (l : List PairS) : Prop := ∀ x ∈ l, wrongP x = 0
theorem FineP.size {l : List PairS} (h : FineP l) : sizeP l ≤ 8256 * l.length := by
  induction l with
  | nil => simp [sizeP]
  | cons x r ih =>
    have h1 := ih (fun y hy => h y (List.mem_cons_of_mem _ hy))
    have h2 := h x (List.mem_cons_self ..)
    have h3 : ¬ (64 < x.key.size ∨ 8192 < x.val.size) := fun h3 => by
      unfold wrongP at h2
      split at h2
      · cases h2
      · first | (rw [if_pos h3] at h2; cases h2) | exact absurd h2 (by decide)
    rw [sizeP_cons, List.length_cons]
    omega
theorem putIf_fine {x : PairS} {l : List PairS} (h : FineP l) : FineP (putIf x l) := by
  unfold putIf
  split
  · rename_i hx
    intro y hy
    unfold putP at hy
    rcases List.mem_append.1 hy with hy | hy
    · exact h y (List.mem_of_mem_take hy)
    · rcases List.mem_cons.1 hy with rfl | hy
      · exact hx
      · exact h y (List.mem_of_mem_drop hy)
  · exact h
theorem puts_fine : ∀ (ps l : List PairS), FineP l → FineP (ps.foldl (fun l x => putIf x l) l)
  | [], _, h => h
  | x :: r, l, h => puts_fine r (putIf x l) (putIf_fine h)
theorem putsP_fine (ps : List PairS) : FineP (putsP ps) := puts_fine ps [] (fun _ h => by cases h)
theorem putsP_rising : ∀ (ps : List PairS) (k : Nat), RisingP (putsP (ps.take k))
  | ps, 0 => List.Pairwise.nil
  | ps, k + 1 => by
    by_cases h : k < ps.length
    · rw [putsP_next h]
      exact putIf_rising (putsP_rising ps k)
    · have e : ps.take (k + 1) = ps.take k := by rw [List.take_of_length_le (by omega), List.take_of_length_le (by omega)]
      rw [e]; exact putsP_rising ps k
end Go.Proofs.YtmmamgnbonpkiaaDoor

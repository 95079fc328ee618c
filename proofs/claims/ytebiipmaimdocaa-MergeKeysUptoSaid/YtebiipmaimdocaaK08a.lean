/- Layer 8: the laws' awake, whatever the merge. -/
import Derived.Test.YtebiipmaimdocaaK08
namespace Go.Proofs.Ytebiipmaimdocaa
open Go.RowKit Go.Maps Go.WideMaps Go.Shelf
set_option linter.unusedVariables false

theorem equalIn_func_nil8 (d : Nat) {t : TypeId} {ts rs : Array TypeId} {va : Bool} (ht : Try.prog.underlying t = some (.func ts rs va)) (g : Nat) (lb : Array Value) (w : World) : (Op.equalIn (d + 1) t (.func (.func g) #[] lb) .nilFunc).run Try.prog w = .ok false w := by
  simp [Op.equalIn, run_underlying ht]
theorem func_nil8 {t : TypeId} {ts rs : Array TypeId} {va : Bool} (ht : Try.prog.underlying t = some (.func ts rs va)) (g : Nat) (lb : Array Value) (w : World) : (binOp .eql t (.func (.func g) #[] lb) .nilFunc).run Try.prog w = .ok (.bool false) w := by
  have h2 : (Op.equal t (.func (.func g) #[] lb) .nilFunc).run Try.prog w = .ok false w := equalIn_func_nil8 9999 ht g lb w
  simp only [binOp]
  simp [h2]
def pA8 : PairS := ⟨⟨#[97]⟩, ⟨#[49]⟩, false⟩
def pC8 : PairS := ⟨⟨#[97]⟩, ⟨#[50]⟩, false⟩
def pB8 : PairS := ⟨⟨#[98]⟩, ⟨#[]⟩, false⟩
theorem good8 : GoodL [[pA8], [], [pC8, pB8]] := fun l hl => by
  simp only [List.mem_cons, List.not_mem_nil, or_false] at hl
  rcases hl with rfl | rfl | rfl
  · exact ⟨List.pairwise_singleton _ _, fun x hx => by rw [List.mem_singleton.1 hx]; rfl⟩
  · exact ⟨List.Pairwise.nil, fun x hx => by cases hx⟩
  · exact ⟨List.pairwise_pair.2 bef_ab, fun x hx => by
      rcases List.mem_cons.1 hx with rfl | hx
      · rfl
      · rw [List.mem_singleton.1 hx]; rfl⟩
theorem all8_ab : allP [[pA8], [], [pC8, pB8]] = [pA8, pB8] := by
  refine rising_ext (allP_rising _) (List.pairwise_pair.2 bef_ab) fun y => ?_
  have h0 := good8
  have h1 := h0.cons.2
  have h2 := h1.cons.2
  rw [mem_allP_cons h0, mem_allP_cons h1, mem_allP_cons h2, allP_nil]
  have hne : pB8.key ≠ pA8.key := by decide
  have heq : pC8.key = pA8.key := rfl
  simp only [List.mem_cons, List.not_mem_nil, or_false, false_or, false_and, forall_eq]
  constructor
  · rintro (h | ⟨⟨h | h, -⟩, h3⟩)
    · exact .inl h
    · subst h; exact absurd heq.symm h3
    · exact .inr h
  · rintro (h | h)
    · exact .inl h
    · subst h
      exact .inr ⟨⟨.inr rfl, fun z hz => by cases hz⟩, fun e => hne e.symm⟩
theorem read8_one (w : World) (x : PairS) {W : World} {b : Nat} (h : W.heap[b]? = some (.cells #[.string x.key, .string x.val, .bool x.gone] 29 (0, 0))) : ReadP W (.slice (some ⟨b, 0, none⟩) 1 1) [x] := by
  refine ⟨by simp [maxLen], _, _, rfl, .inr ⟨b, 0, rfl, fun i hi => ?_⟩⟩
  rw [block_cell h, block_cell h, block_cell h]
  match i, hi with
  | 0, _ => exact ⟨rfl, rfl, rfl⟩
theorem read8_two (w : World) (x y : PairS) {W : World} {b : Nat} (h : W.heap[b]? = some (.cells #[.string x.key, .string x.val, .bool x.gone, .string y.key, .string y.val, .bool y.gone] 29 (0, 0))) : ReadP W (.slice (some ⟨b, 0, none⟩) 2 2) [x, y] := by
  refine ⟨by simp [maxLen], _, _, rfl, .inr ⟨b, 0, rfl, fun i hi => ?_⟩⟩
  rw [block_cell h, block_cell h, block_cell h]
  match i, hi with
  | 0, _ | 1, _ => exact ⟨rfl, rfl, rfl⟩

set_option maxHeartbeats 2000000 in
set_option maxRecDepth 100000 in
theorem awake8_any (K : MergeK) (w : World) :
    Calls Try.prog 8 #[] w fun e w' => e = .returned (.bool true) ∧ Below w.heap.size w w' := by
  have r1 := read8_one w pA8 (heap_alloc_new w (.cells #[.string ⟨#[97]⟩, .string ⟨#[49]⟩, .bool false] 29))
  have b1 : Below w.heap.size w (w.alloc (.cells #[.string ⟨#[97]⟩, .string ⟨#[49]⟩, .bool false] 29)) := (Below.refl _ w).alloc (Nat.le_refl _) _
  have hv1 := values_anyC (c := 1) (l := [pA8]) r1
  have B1 := Lib.hid b1
  have HGD := Lib.hid good8
  have HAB := Lib.hid all8_ab
  clear r1 b1
  go_enter Try.func8, Try.ntmps8
  go_wp2_with fail
  refine hv1.mono ?_
  rintro e w2 ⟨g1, lb1, G1, rfl, eg1, hg1, hG1, b2, -⟩
  have S2 : Hid (SeqV w2 (.func (.func g1) #[] lb1) [pA8] G1) := .inr ⟨g1, lb1, rfl, eg1, hg1, hG1⟩
  have B2 := Lib.hid (B1.out.trans (b2.mono B1.out.size))
  clear hv1 hg1 hG1 eg1 b2
  have r3 := read8_two w2 pC8 pB8 (heap_alloc_new w2 (.cells #[.string ⟨#[97]⟩, .string ⟨#[50]⟩, .bool false, .string ⟨#[98]⟩, .string ⟨#[]⟩, .bool false] 29))
  have b3 : Below w2.heap.size w2 (w2.alloc (.cells #[.string ⟨#[97]⟩, .string ⟨#[50]⟩, .bool false, .string ⟨#[98]⟩, .string ⟨#[]⟩, .bool false] 29)) := (Below.refl _ w2).alloc (Nat.le_refl _) _
  have S3 := Lib.hid (S2.out.below b3)
  have B3 := Lib.hid (B2.out.trans (b3.mono B2.out.size))
  have hv3 := values_anyC (c := 2) (l := [pC8, pB8]) r3
  clear r3 b3 S2
  go_wp2_with fail
  refine hv3.mono ?_
  rintro e w4 ⟨g2, lb2, G2, rfl, eg2, hg2, hG2, b4, -⟩
  have T4 : Hid (SeqV w4 (.func (.func g2) #[] lb2) [pC8, pB8] G2) := .inr ⟨g2, lb2, rfl, eg2, hg2, hG2⟩
  have S4 := Lib.hid (S3.out.below b4)
  have B4 := Lib.hid (B3.out.trans (b4.mono B3.out.size))
  clear hv3 hg2 hG2 eg2 b4 S3
  have b5 : Below w4.heap.size w4 (w4.alloc (.cells #[.func (.func g1) #[] lb1, .nilFunc, .func (.func g2) #[] lb2] 31)) := (Below.refl _ w4).alloc (Nat.le_refl _) _
  have n5 := heap_alloc_new w4 (.cells #[.func (.func g1) #[] lb1, .nilFunc, .func (.func g2) #[] lb2] 31)
  have hsz : (w4.alloc (.cells #[.func (.func g1) #[] lb1, .nilFunc, .func (.func g2) #[] lb2] 31)).heap.size = w4.heap.size + 1 := by simp
  have hin : SeqsIn (w4.alloc (.cells #[.func (.func g1) #[] lb1, .nilFunc, .func (.func g2) #[] lb2] 31)) (.slice (some ⟨w4.heap.size, 0, none⟩) 3 3) [[pA8], [], [pC8, pB8]] (fun j => j < w4.heap.size + 1) := by
    refine ⟨fun j hj => by omega, by decide, _, _, rfl, by decide, .inr ⟨w4.heap.size, 0, rfl, by omega, fun i hi => ?_⟩⟩
    rw [block_cell n5]
    match i, hi with
    | 0, _ => exact ⟨_, _, rfl, S4.out.below b5, fun j hj => by have := S4.out.func.2.2 j hj; omega⟩
    | 1, _ => exact ⟨_, fun _ => False, rfl, .inl ⟨rfl, rfl⟩, fun j hj => hj.elim⟩
    | 2, _ => exact ⟨_, _, rfl, T4.out.below b5, fun j hj => by have := T4.out.func.2.2 j hj; omega⟩
  have hall := K.all (a := some ⟨w4.heap.size, 0, none⟩) (c := 3) (ls := [[pA8], [], [pC8, pB8]]) hin HGD.out (by decide)
  have B5 := Lib.hid (B4.out.trans (b5.mono B4.out.size))
  clear b5 n5 hsz hin S4 T4
  go_wp2_with fail
  refine hall.mono ?_
  rintro e w6 ⟨g, lb, G', rfl, hs6, b6, -⟩
  rw [HAB.out] at hs6
  have hnf := fun w => func_nil8 Try.underlying31 g lb w
  have hcol := made_collect hs6 (by decide)
  have B6 := Lib.hid (B5.out.trans (b6.mono B5.out.size))
  clear hall hs6 b6
  go_wp2_with fail
  refine hcol.mono ?_
  rintro e w7 ⟨ca, cc, rfl, r7, b7⟩
  have B7 := Lib.hid (B6.out.trans (b7.mono B6.out.size))
  obtain ⟨bb, oo, rfl, q0, q1, q2⟩ := r7.at (i := 0) (by decide)
  obtain ⟨bb', oo', hbo, p0, p1, p2⟩ := r7.at (i := 1) (by decide)
  injection hbo with hbo
  injection hbo with e1 e2
  subst e1
  subst e2
  clear hcol b7 r7 hnf
  have q1' : w7.cell? ⟨bb, oo + 1, none⟩ = some (.string ⟨#[49]⟩) := q1
  have p0' : w7.cell? ⟨bb, oo + 3, none⟩ = some (.string ⟨#[98]⟩) := p0
  clear q0 q1 q2 p0 p1 p2
  go_wp2
  go_ret
  exact ⟨rfl, B7.out⟩
end Go.Proofs.Ytebiipmaimdocaa

/- Iterators of pairs: what a sequence gives, and slices.Collect of it. -/
import Derived.Test.YtmmamgnbonpkiaaDoorChecked
import Derived.RangeFuncBox
import Derived.RangeFuncNested
import Derived.RangeFuncBound
import Derived.RangeFuncCalls
import Derived.RangeFuncLeaves
import Derived.Shelf.Abstract
import Derived.Shelf.RegionOpen
import Derived.WalkKit
import Derived.OwnWalkIn
import Derived.TacticsInMore
import Derived.LoopNIn
import Derived.LoopIn
import Derived.Maps.AppendAt
import Derived.Outline
namespace Go.Proofs.YtmmamgnbonpkiaaDoor
open Go.RowKit Go.Shelf
set_option linter.unusedVariables false

attribute [local go_sem] Oper.semAt_some

/-- A pair. -/
structure PairS where
  key : ByteArray
  val : ByteArray
  gone : Bool
deriving DecidableEq
def PairS.val' (p : PairS) : Value := .agg #[.string p.key, .string p.val, .bool p.gone]
def PairS.cells (p : PairS) : List Value := [.string p.key, .string p.val, .bool p.gone]
def rowP (ps : List PairS) : List Value := ps.flatMap PairS.cells
theorem rowP_snoc (ps : List PairS) (p : PairS) : rowP (ps ++ [p]) = rowP ps ++ [.string p.key, .string p.val, .bool p.gone] := by simp [rowP, PairS.cells]
theorem rowP_len (ps : List PairS) : (rowP ps).length = ps.length * 3 := by
  induction ps with
  | nil => rfl
  | cons p r ih =>
    have e : rowP (p :: r) = p.cells ++ rowP r := rfl
    rw [e, List.length_append, ih, List.length_cons]
    have : p.cells.length = 3 := rfl
    omega
/-- What a round must leave alone: the blocks of F. -/
def Keeps (F : Nat → Prop) (W W' : World) : Prop := ∀ k, F k → W'.heap[k]? = W.heap[k]?
theorem Keeps.trans {F : Nat → Prop} {A B C : World} (h : Keeps F A B) (k : Keeps F B C) : Keeps F A C := fun i hi => (k i hi).trans (h i hi)
theorem Keeps.refl (F : Nat → Prop) (A : World) : Keeps F A A := fun _ _ => rfl
theorem Keeps.of_below {F : Nat → Prop} {n : Nat} {A B : World} (h : Below n A B) (hF : ∀ k, F k → k < n) : Keeps F A B := fun i hi => h.block i (hF i hi)
theorem Keeps.put {F : Nat → Prop} {n : Nat} (hF : ∀ k, F k → k < n) (W : World) (l : Nat) (o o' : Obj) (hl : n ≤ l) (_ : W.heap[l]? = some o) (_ : o.isCells = false) (_ : o.isWalk = false) : Keeps F W (W.putObj l o') := fun i hi => World.putObj_heap_other (fun e => by have := hF i hi; omega)

/-- A function value that gives pairs, whatever is done with them between, so it keeps F's blocks. -/
def GivesP (F : Fence) (n : Nat) (g : Nat) (lb : Array Value) (G : Nat → Prop) (ps : List PairS) (w : World) : Prop :=
  SeqStopsK F n Tryd.prog g lb (fun p : PairS => #[p.val']) (Keeps G) (fun xs => xs = ps) (fun pre => pre <+: ps) ps.length w

/-- .. where the loop's body is handed dec's picture of each pair. -/
def GivesD (F : Fence) (n : Nat) (g : Nat) (lb : Array Value) (G : Nat → Prop) (dec : PairS → PairS) (ps : List PairS) (w : World) : Prop :=
  SeqStopsK F n Tryd.prog g lb (fun p : PairS => #[(dec p).val']) (Keeps G) (fun xs => xs = ps) (fun pre => pre <+: ps) ps.length w

theorem cells_new (W : World) (x : PairS) : ∀ j u, [Value.string x.key, .string x.val, .bool x.gone][j]? = some u → (W.alloc (.cells #[.string x.key, .string x.val, .bool x.gone] 31)).cell? ((⟨W.heap.size, 0, none⟩ : Addr).add j) = some u := by
  intro j u h
  have hb := World.alloc_heap_new W (.cells #[.string x.key, .string x.val, .bool x.gone] 31)
  rw [Addr.add_lit, Nat.zero_add, World.cell?, hb]
  match j, h with
  | 0, h => exact h
  | 1, h => exact h
  | 2, h => exact h
theorem three_one (x : PairS) : ∀ u ∈ [Value.string x.key, .string x.val, .bool x.gone], u.oneCell' = true := by
  intro u hu
  simp at hu
  rcases hu with rfl | rfl | rfl <;> rfl
theorem infoPair : (Tryd.prog.info? 31).map (fun i => (i.zero, i.size, i.bytes)) = some (some (.agg #[.string ⟨#[]⟩, .string ⟨#[]⟩, .bool false]), 3, 40) := by kernel_rfl

set_option maxRecDepth 100000 in
set_option maxHeartbeats 2000000 in
theorem append_seq (F : Fence) (n : Nat) (hf : F.fn 26) (hro : F.round = none) (hn : 2 ≤ n) (g : Nat) (lb : Array Value) (hFg : F.fn g) (eg : ∀ args w, (callFunc g args).run Tryd.prog w = .ok (.enter g args) w)
    (G : Nat → Prop) (ps : List PairS) (w : World) (hG : ∀ k, G k → k < w.heap.size) (hN : ps.length ≤ 3518437208880) (hseq : GivesP F (n - 1) g lb G ps w) :
    CallsIn F n Tryd.prog 26 #[.slice none 0 0, .func (.func g) #[] lb] w fun e W' => ∃ v, e = .returned v ∧ W'.ownsRow w.heap.size 31 3 v ps.length (rowP ps) ∧ Below w.heap.size w W' := by
  have h1 : 1 ≤ n := by omega
  obtain ⟨i0, hi, hz0, hz1, hz2⟩ := info_parts infoPair
  refine callsIn_of_wp_marks Tryd.func26 rfl hf ?_ hro
  simp only [Tryd.ntmps26, List.size_toArray, List.length_cons, List.length_nil, Nat.reduceAdd, Nat.reduceSub, Array.replicate_succ, Array.replicate_zero, List.push_toArray, List.append_toArray, List.nil_append, List.cons_append]
  gi_wp2
  have bO := Boxed.new w 22 (.slice none 0 0)
  have hB0 : Below w.heap.size w (w.alloc (.cells #[.slice none 0 0] 22)) := (Below.refl _ w).alloc (Nat.le_refl _) _
  have hs0 : (w.alloc (.cells #[.slice none 0 0] 22)).heap.size = w.heap.size + 1 := by simp
  refine wpIn_rangeFunc_ownH hro h1 (gf := g) (lb := lb) rfl hFg eg hseq (fun {A B C} => Keeps.trans) (fun W l o o' hl => Keeps.put hG W l o o' (by omega)) hB0 (fun _ => rfl)
    (fun pre W => (∃ v, Boxed W w.heap.size 22 v ∧ W.ownsRow w.heap.size 31 3 v pre.length (rowP pre) ∧ True) ∧ Below w.heap.size w W)
    (fun _ _ _ => False)
    (OwnFrom.and (Own.from (holdsRow_own w.heap.size w.heap.size 22 31 3 (fun pre => pre.length) (fun pre => rowP pre) (fun _ _ => True)) _) (ownFrom_below (Nat.le_refl _) (by omega)))
    (fun _ _ _ _ _ hs _ _ => hs)
    ⟨⟨_, bO, World.ownsRow_nil _ _ _ _, trivial⟩, hB0⟩
    (fun x a' W => ∃ Bx, w.heap.size < Bx ∧ W.heap[Bx]? = some (.cells #[.string x.key, .string x.val, .bool x.gone] 31 (0, 0)) ∧
      a' = { tmps := #[.slice none 0 0, .func (.func g) #[] lb, .pointer (some ⟨w.heap.size, 0, none⟩), undef, .slice none 0 0, .pointer (some ⟨Bx, 0, none⟩), .func (.func g) #[] lb, x.val', undef, undef, undef, undef, undef], defers := [] })
    ?hAx ?assign ?body ?done ?stop
  case hAx =>
    rintro x a' _ W W' row ⟨Bx, h1, h2, h3⟩ hg hr
    refine ⟨Bx, h1, (hg.block Bx (Array.getElem?_eq_some_iff.1 h2).1 (fun e => ?_)).trans h2, h3⟩
    obtain ⟨_, o, ho, hc⟩ := hr Bx e.symm
    rw [h2] at ho
    cases ho
    cases hc
  case assign =>
    rintro l pre x W K ⟨⟨v, hv, hrow, _⟩, hB⟩ hK
    unfold PairS.val' at *
    gi_wp2
    exact hK _ _ ((KeepsOthers.alloc _ _).from _) (Keeps.of_below ((Below.refl _ W).alloc (Nat.le_refl _) _) (fun k hk => by have := hG k hk; have := hB.size; omega)) ⟨⟨v, hv.alloc _, hrow.alloc _, trivial⟩, hB.alloc hB.size _⟩
      ⟨W.heap.size, hv.lt, World.alloc_heap_new W _, rfl⟩
  case body =>
    rintro l pre x a' W hl ⟨r, hr⟩ ⟨⟨v, hv, hrow, _⟩, hB⟩ ⟨Bx, hBx, hbx, rfl⟩ hlt
    have hc := hv.cell
    have x0 : W.cell? ⟨Bx, 0, none⟩ = some (.string x.key) := by rw [World.cell?, hbx]; rfl
    have x1 : W.cell? ⟨Bx, 1, none⟩ = some (.string x.val) := by rw [World.cell?, hbx]; rfl
    have x2 : W.cell? ⟨Bx, 2, none⟩ = some (.bool x.gone) := by rw [World.cell?, hbx]; rfl
    have hne : (22 : TypeId) ≠ 31 := by decide
    unfold PairS.val'
    gi_wp2_with (gi_at_builtin; refine wpListIn_append_own _ rfl _ _ 22 rfl w.heap.size 31 i0 _ 3 40 Tryd.underlying22 hi hz0 hz1 hz2 rfl (by decide) _ _ _ rfl (hrow.alloc _) ⟨W.heap.size, 0, none⟩ 1 1 [.string x.key, .string x.val, .bool x.gone] rfl rfl (cells_new _ _) (three_one x) (by unfold maxLen; omega) (by omega) (by have := hB.size; simp; omega) ?_; intro v' w1 hown' hgrow _; obtain ⟨g', cap', rfl⟩ := ownsRow_succ hown'; obtain ⟨hv1, hv2, hr2, hk2, hb2⟩ := hv.appended hne hrow hB.size (Nat.le_refl _) hown' hgrow; have hc1 := hv1.cell; have hf1 := hv1.frozen)
    exact ⟨hk2.from _, Keeps.of_below hb2 hG, ⟨_, hv2, by rw [rowP_snoc, List.length_append]; exact hr2, trivial⟩, hB.trans hb2⟩
  case done =>
    rintro D ys W hD rfl ⟨⟨v, hv, hrow, _⟩, hB⟩ hK
    have hc := hv.cell
    gi_wp2
    refine ⟨by simp, .inl ⟨_, _, rfl, run_takeDeferred hK, ?_⟩⟩
    exact ⟨_, results_tmp rfl _ _ _, v, rfl, ownsRow_putObj hrow _ hK rfl, hB.trans (belowK_b (w := w) (Nat.le_refl _) W D _ _ (by omega) hK rfl rfl)⟩
  case stop =>
    rintro D c pre W _ _ h _
    exact h.elim

set_option maxHeartbeats 1000000 in
theorem collect_seq (F : Fence) (n : Nat) (hc : F.fn 16) (hf : F.fn 26) (hro : F.round = none) (hn : 3 ≤ n) (g : Nat) (lb : Array Value) (hFg : F.fn g) (eg : ∀ args w, (callFunc g args).run Tryd.prog w = .ok (.enter g args) w)
    (G : Nat → Prop) (ps : List PairS) (w : World) (hG : ∀ k, G k → k < w.heap.size) (hN : ps.length ≤ 3518437208880) (hseq : GivesP F (n - 1 - 1) g lb G ps w) :
    CallsIn F n Tryd.prog 16 #[.func (.func g) #[] lb] w fun e W' => ∃ v, e = .returned v ∧ W'.ownsRow w.heap.size 31 3 v ps.length (rowP ps) ∧ Below w.heap.size w W' := by
  have h1 : 1 ≤ n := by omega
  refine callsIn_of_wp Tryd.func16 rfl hc ?_ hro
  simp only [Tryd.ntmps16, List.size_toArray, List.length_cons, List.length_nil, Nat.reduceAdd, Nat.reduceSub, Array.replicate_succ, Array.replicate_zero, List.push_toArray, List.append_toArray, List.nil_append, List.cons_append]
  gi_wp2_with (gi_at_call 26; refine (append_seq F (n - 1) hf hro (by omega) g lb hFg eg G ps _ hG hN hseq).mono ?_; rintro e w' ⟨v, rfl, hrow, hb⟩)
  go_ret
  exact ⟨v, rfl, hrow, hb⟩
/-- .. where nothing is fenced. -/
theorem collect_any (g : Nat) (lb : Array Value) (eg : ∀ args w, (callFunc g args).run Tryd.prog w = .ok (.enter g args) w) (G : Nat → Prop) (ps : List PairS) (w : World) (hG : ∀ k, G k → k < w.heap.size) (hN : ps.length ≤ 3518437208880) (hseq : GivesP Fence.wide 4 g lb G ps w) :
    Calls Tryd.prog 16 #[.func (.func g) #[] lb] w fun e W' => ∃ v, e = .returned v ∧ W'.ownsRow w.heap.size 31 3 v ps.length (rowP ps) ∧ Below w.heap.size w W' :=
  (callsIn_wide (n := 6)).1 (collect_seq Fence.wide 6 trivial trivial rfl (by omega) g lb trivial eg G ps w hG hN hseq)
end Go.Proofs.YtmmamgnbonpkiaaDoor

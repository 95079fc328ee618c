/- Iterators of pairs: what a sequence gives, and slices.Collect of it. -/
import Derived.Test.YtfnbkmmfaaklnaaDoorChecked
import Derived.RangeFuncBox
import Derived.RangeFuncNested
import Derived.RangeFuncBound
import Derived.RangeFuncCalls
import Derived.RangeFuncLeaves
import Derived.Shelf.Abstract
import Derived.Shelf.RegionOpen
import Derived.WalkKit
import Derived.OwnWalkIn
import Derived.TacticsInMore
import Derived.LoopNIn
import Derived.LoopIn
import Derived.Maps.AppendAt
import Derived.Outline
namespace Go.Proofs.YtfnbkmmfaaklnaaDoor
open Go.RowKit Go.Shelf
set_option linter.unusedVariables false

attribute [local go_sem] Oper.semAt_some

/-- A pair. -/
structure PairS where
  key : ByteArray
  val : ByteArray
  gone : Bool
deriving DecidableEq
def PairS.val' (p : PairS) : Value := .agg #[.string p.key, .string p.val, .bool p.gone]
def PairS.cells (p : PairS) : List Value := [.string p.key, .string p.val, .bool p.gone]
def rowP (ps : List PairS) : List Value := ps.flatMap PairS.cells
theorem rowP_snoc (ps : List PairS) (p : PairS) : rowP (ps ++ [p]) = rowP ps ++ [.string p.key, .string p.val, .bool p.gone] := by simp [rowP, PairS.cells]
theorem rowP_len (ps : List PairS) : (rowP ps).length = ps.length * 3 := by
  induction ps with
  | nil => rfl
  | cons p r ih =>
    have e : rowP (p :: r) = p.cells ++ rowP r := rfl
    rw [e, List.length_append, ih, List.length_cons]
    have : p.cells.length = 3 := rfl
    omega
/-- What a round must leave alone: the blocks of F. -/
def Keeps (F : Nat → Prop) (W W' : World) : Prop := ∀ k, F k → W'.heap[k]? = W.heap[k]?
theorem Keeps.trans {F : Nat → Prop} {A B C : World} (h : Keeps F A B) (k : Keeps F B C) : Keeps F A C := fun i hi => (k i hi).trans (h i hi)
theorem Keeps.refl (F : Nat → Prop) (A : World) : Keeps F A A := fun _ _ => rfl
theorem Keeps.of_below {F : Nat → Prop} {n : Nat} {A B : World} (h : Below n A B) (hF : ∀ k, F k → k < n) : Keeps F A B := fun i hi => h.block i (hF i hi)
theorem Keeps.put {F : Nat → Prop} {n : Nat} (hF : ∀ k, F k → k < n) (W : World) (l : Nat) (o o' : Obj) (hl : n ≤ l) (_ : W.heap[l]? = some o) (_ : o.isCells = false) (_ : o.isWalk = false) : Keeps F W (W.putObj l o') := fun i hi => World.putObj_heap_other (fun e => by have := hF i hi; omega)

/-- A function value that gives pairs, whatever is done with them between, so it keeps F's blocks. -/
def GivesP (F : Fence) (n : Nat) (g : Nat) (lb : Array Value) (G : Nat → Prop) (ps : List PairS) (w : World) : Prop :=
  SeqStopsK F n Tryd.prog g lb (fun p : PairS => #[p.val']) (Keeps G) (fun xs => xs = ps) (fun pre => pre <+: ps) ps.length w

/-- .. where the loop's body is handed dec's picture of each pair. -/
def GivesD (F : Fence) (n : Nat) (g : Nat) (lb : Array Value) (G : Nat → Prop) (dec : PairS → PairS) (ps : List PairS) (w : World) : Prop :=
  SeqStopsK F n Tryd.prog g lb (fun p : PairS => #[(dec p).val']) (Keeps G) (fun xs => xs = ps) (fun pre => pre <+: ps) ps.length w

theorem three_one (x : PairS) : ∀ u ∈ [Value.string x.key, .string x.val, .bool x.gone], u.oneCell' = true := by
  intro u hu
  simp at hu
  rcases hu with rfl | rfl | rfl <;> rfl
end Go.Proofs.YtfnbkmmfaaklnaaDoor

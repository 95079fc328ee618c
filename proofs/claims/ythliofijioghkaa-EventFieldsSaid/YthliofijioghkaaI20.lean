/- A region that draws its order, some of whose callees make memory and whose own operations only read: walked once, over the class of worlds that are as one world was below. -/
import Derived.Test.YthliofijioghkaaG5
import Derived.BigQuiet
import Derived.Deep.QuietTactic
namespace Go.Proofs.Ythliofijioghkaa
open Go.RowKit
set_option linter.unusedVariables false

structure BW (w : World) where
  w' : World
  below : Below w.heap.size w w'
instance (w : World) : Nonempty (BW w) := ⟨⟨w, Below.refl _ _⟩⟩
theorem region_class {P : Program} {id : Nat} {Q : Exit → Act → World → Prop} {a : Act} {w : World} (y : BW w) {wx : World} {l : List Oper} (hx : wx = y.w') (hm : P.follows .mixedOrders = true) (hB : Region.lexB .any l.toArray = true)
    (h : wpQuiet P l.toArray (fun w' => ∃ y : BW w, w' = y.w') (fun a' => ∀ w', (∃ y : BW w, w' = y.w') → Q .normal a' w') l a) : (Code.region id l.toArray true).wp P Q a wx :=
  wp_region_quiet (C := fun w' => ∃ y : BW w, w' = y.w') hm hB ⟨⟨_, (hx ▸ y.below).drew⟩, rfl⟩ (by simpa using h)
theorem class_call {P : Program} {f : FuncId} {args : Array Value} {w : World} {y : BW w} {v : Value} (h : Calls P f args y.w' fun e w'' => e = .returned v ∧ Below y.w'.heap.size y.w' w'') : Calls P f args y.w' fun e w'' => e = .returned v ∧ ∃ z : BW w, w'' = z.w' :=
  h.mono fun e w'' ⟨he, hb⟩ => ⟨he, ⟨w'', y.below.trans (hb.mono y.below.size)⟩, rfl⟩
end Go.Proofs.Ythliofijioghkaa

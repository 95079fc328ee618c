/- A range over a sequence of pairs whose variable is boxed in every round; the walk goes on in the plain words behind it. -/
import Derived.Test.YtmmamgnbonpkiaaDoorI01
namespace Go.Proofs.YtmmamgnbonpkiaaDoor
open Go.RowKit Go.Shelf
set_option linter.unusedVariables false

theorem ownsRow_low {w : World} {base base' : Nat} {e : TypeId} {size : Nat} {v : Value} {n : Nat} {xs : List Value} (h : w.ownsRow base e size v n xs) (hb : base' ≤ base) : w.ownsRow base' e size v n xs := by
  obtain ⟨h1, h2⟩ := h
  refine ⟨h1, ?_⟩
  rcases h2 with h2 | ⟨g, cap, cur, a, b, c⟩
  · exact .inl h2
  · exact .inr ⟨g, cap, cur, a, Nat.le_trans hb b, c⟩
/-- The pair in its box. -/
def PairBox (W : World) (b : Nat) (x : PairS) : Prop := W.heap[b]? = some (.cells #[.string x.key, .string x.val, .bool x.gone] 31 (0, 0))
theorem PairBox.new (W : World) (x : PairS) : PairBox (W.alloc (.cells #[.string x.key, .string x.val, .bool x.gone] 31)) W.heap.size x := World.alloc_heap_new W _
theorem PairBox.c0 {W : World} {b : Nat} {x : PairS} (h : PairBox W b x) : W.cell? ⟨b, 0, none⟩ = some (.string x.key) := by rw [World.cell?, show W.heap[b]? = _ from h]; rfl
theorem PairBox.c1 {W : World} {b : Nat} {x : PairS} (h : PairBox W b x) : W.cell? ⟨b, 1, none⟩ = some (.string x.val) := by rw [World.cell?, show W.heap[b]? = _ from h]; rfl
theorem PairBox.c2 {W : World} {b : Nat} {x : PairS} (h : PairBox W b x) : W.cell? ⟨b, 2, none⟩ = some (.bool x.gone) := by rw [World.cell?, show W.heap[b]? = _ from h]; rfl

/-- What is known behind the loop, whichever way it was left. -/
def EndsP (G : Nat → Prop) (ps : List PairS) (I : List PairS → World → Prop) (Ix : Code → List PairS → World → Prop) (w : World) (n : Nat) (Q : Exit → Act → World → Prop) (a : Act) : Prop :=
  (∀ (D : Nat) (W : World), w.heap.size ≤ D → I ps W → W.heap[D]? = some (.deferred (some [])) → Q .normal { a with defers := { target := .collected D, args := #[] } :: a.defers } W) ∧
  ∀ (D : Nat) (c : Code) (pre : List PairS) (W : World), w.heap.size ≤ D → pre <+: ps → Ix c pre W → W.heap[D]? = some (.deferred (some [])) → c.wp Tryd.prog Q { a with defers := { target := .collected D, args := #[] } :: a.defers } W

/-- .. in a block that a break leaves. -/
theorem EndsP.block {G : Nat → Prop} {ps : List PairS} {I : List PairS → World → Prop} {Ix : Code → List PairS → World → Prop} {w : World} {n b : Nat} {R : Exit → Act → World → Prop} {a : Act} (J : World → Prop) (hI : ∀ W, I ps W → J W) (hIx : ∀ c pre W, pre <+: ps → Ix c pre W → c = .exit b ∧ J W)
    (hrest : ∀ (D : Nat) (W : World), w.heap.size ≤ D → J W → W.heap[D]? = some (.deferred (some [])) → R .normal { a with defers := { target := .collected D, args := #[] } :: a.defers } W) : EndsP G ps I Ix w n (Exit.inBlock b R) a := by
  refine ⟨fun D W hD hi hK => hrest D W hD (hI W hi) hK, fun D c pre W hD hp hi hK => ?_⟩
  obtain ⟨rfl, hj⟩ := hIx c pre W hp hi
  refine wp_exit ?_
  have := hrest D W hD hj hK
  simpa [Exit.inBlock] using this

theorem range_boxD {n : Nat} {g : Operand} {pa : Array Tmp} {assign body : Code} {Q : Exit → Act → World → Prop} {a : Act} {w w0 : World} (dec : PairS → PairS) (sx sb : Nat) (h1 : 1 ≤ n) {gf : Nat} {lb : Array Value} {G : Nat → Prop} {ps : List PairS}
    (hg : a.eval g = .func (.func gf) #[] lb) (eg : ∀ args w, (callFunc gf args).run Tryd.prog w = .ok (.enter gf args) w)
    (hseq : GivesD Fence.wide (n - 1) gf lb G dec ps w0) (hb0 : Below w0.heap.size w0 w) (hG : ∀ k, G k → k < w.heap.size) (hpa : pa.size = 1)
    (I : List PairS → World → Prop) (Ix : Code → List PairS → World → Prop) (hI : OwnFrom w.heap.size I) (hIx : ∀ c, OwnFrom w.heap.size (Ix c)) (h0 : I [] w)
    (hassign : ∀ (l : Nat) (pre : List PairS) (x : PairS) (W : World) (K : Act → World → Prop), I pre W →
      (∀ Bx W', w.heap.size ≤ Bx → PairBox W' Bx (dec x) → KeepsFrom w.heap.size W W' → Keeps G W W' → I pre W' → K { tmps := (a.tmps.setIfInBounds sx (dec x).val').setIfInBounds sb (.pointer (some ⟨Bx, 0, none⟩)), defers := [] } W') →
      assign.wpIn (Fence.wide.inRound l) (n - 1 - 1) Tryd.prog (Exit.then K (fun _ _ _ => False)) { tmps := (pa.zip #[(dec x).val']).foldl (fun t (p, v) => t.setIfInBounds p v) a.tmps, defers := [] } W)
    (hbody : ∀ (l : Nat) (pre : List PairS) (x : PairS) (Bx : Nat) (W : World), w.heap.size ≤ l → (∃ r, W.heap[l]? = some (.loop r)) → I pre W → w.heap.size ≤ Bx → PairBox W Bx (dec x) → pre.length < ps.length →
      body.wpIn (Fence.wide.inRound l) (n - 1 - 1) Tryd.prog (ownPostG w.heap.size (Keeps G) I Ix (pre ++ [x]) W) { tmps := (a.tmps.setIfInBounds sx (dec x).val').setIfInBounds sb (.pointer (some ⟨Bx, 0, none⟩)), defers := [] } W)
    (hend : EndsP G ps I Ix w n Q a) :
    (Code.rangeFunc g pa assign body).wp Tryd.prog Q a w := by
  refine (wpIn_wide (n := n)).1 ?_
  refine wpIn_rangeFunc_ownH rfl h1 (gf := gf) (lb := lb) hg trivial eg hseq (fun {A B C} => Keeps.trans) (fun W l o o' hl => Keeps.put hG W l o o' (by omega)) hb0 (fun _ => hpa.symm) I Ix hI hIx h0
    (fun x a' W => ∃ Bx, w.heap.size ≤ Bx ∧ PairBox W Bx (dec x) ∧ a' = { tmps := (a.tmps.setIfInBounds sx (dec x).val').setIfInBounds sb (.pointer (some ⟨Bx, 0, none⟩)), defers := [] }) ?hAx ?assign ?body ?done ?stop
  case hAx =>
    rintro x a' _ W W' row ⟨Bx, h1, h2, h3⟩ hg hr
    refine ⟨Bx, h1, (hg.block Bx (Array.getElem?_eq_some_iff.1 h2).1 (fun e => ?_)).trans h2, h3⟩
    obtain ⟨_, o, ho, hc⟩ := hr Bx e.symm
    rw [show W.heap[Bx]? = _ from h2] at ho
    cases ho
    cases hc
  case assign =>
    intro l pre x W K hi hK
    exact hassign l pre x W K hi fun Bx W' g1 g2 g3 g4 g5 => hK _ _ g3 g4 g5 ⟨Bx, g1, g2, rfl⟩
  case body =>
    rintro l pre x a' W hl hr hi ⟨Bx, g1, g2, rfl⟩ hlt
    exact hbody l pre x Bx W hl hr hi g1 g2 hlt
  case done =>
    rintro D xs W hD rfl hi hK
    exact hend.1 D W hD hi hK
  case stop =>
    intro D c pre W hD hp hi hK
    exact wpIn_wide.2 (hend.2 D c pre W hD hp hi hK)
theorem range_boxP {n : Nat} {g : Operand} {pa : Array Tmp} {assign body : Code} {Q : Exit → Act → World → Prop} {a : Act} {w w0 : World} (sx sb : Nat) (h1 : 1 ≤ n) {gf : Nat} {lb : Array Value} {G : Nat → Prop} {ps : List PairS}
    (hg : a.eval g = .func (.func gf) #[] lb) (eg : ∀ args w, (callFunc gf args).run Tryd.prog w = .ok (.enter gf args) w)
    (hseq : GivesP Fence.wide (n - 1) gf lb G ps w0) (hb0 : Below w0.heap.size w0 w) (hG : ∀ k, G k → k < w.heap.size) (hpa : pa.size = 1)
    (I : List PairS → World → Prop) (Ix : Code → List PairS → World → Prop) (hI : OwnFrom w.heap.size I) (hIx : ∀ c, OwnFrom w.heap.size (Ix c)) (h0 : I [] w)
    (hassign : ∀ (l : Nat) (pre : List PairS) (x : PairS) (W : World) (K : Act → World → Prop), I pre W →
      (∀ Bx W', w.heap.size ≤ Bx → PairBox W' Bx x → KeepsFrom w.heap.size W W' → Keeps G W W' → I pre W' → K { tmps := (a.tmps.setIfInBounds sx x.val').setIfInBounds sb (.pointer (some ⟨Bx, 0, none⟩)), defers := [] } W') →
      assign.wpIn (Fence.wide.inRound l) (n - 1 - 1) Tryd.prog (Exit.then K (fun _ _ _ => False)) { tmps := (pa.zip #[x.val']).foldl (fun t (p, v) => t.setIfInBounds p v) a.tmps, defers := [] } W)
    (hbody : ∀ (l : Nat) (pre : List PairS) (x : PairS) (Bx : Nat) (W : World), w.heap.size ≤ l → (∃ r, W.heap[l]? = some (.loop r)) → I pre W → w.heap.size ≤ Bx → PairBox W Bx x → pre.length < ps.length →
      body.wpIn (Fence.wide.inRound l) (n - 1 - 1) Tryd.prog (ownPostG w.heap.size (Keeps G) I Ix (pre ++ [x]) W) { tmps := (a.tmps.setIfInBounds sx x.val').setIfInBounds sb (.pointer (some ⟨Bx, 0, none⟩)), defers := [] } W)
    (hend : EndsP G ps I Ix w n Q a) :
    (Code.rangeFunc g pa assign body).wp Tryd.prog Q a w :=
  range_boxD id sx sb h1 hg eg hseq hb0 hG hpa I Ix hI hIx h0 hassign hbody hend
end Go.Proofs.YtmmamgnbonpkiaaDoor

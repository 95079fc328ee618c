/- Layer 5: the maps of the laws: keys that were seen; the last pair of each key. -/
import Derived.Test.YtmmamgnbonpkiaaDoorM05s
import Derived.Maps.Ext
import Derived.Maps.OwnSet
namespace Go.Proofs.YtmmamgnbonpkiaaDoor
open Go.RowKit Go.Maps Go.WideMaps
set_option linter.unusedVariables false

def boolR (v : Value) : Option (DU × List MemPlace) := match v with
  | .bool x => some (.lit (.bool x), [])
  | _ => none
theorem boolR_inv {v : Value} {x : Bool} {ps : List MemPlace} (h : boolR v = some (.lit (.bool x), ps)) : v = .bool x := by
  unfold boolR at h
  split at h
  · simp only [Option.some.injEq, Prod.mk.injEq, DataW.lit.injEq, Lit.bool.injEq] at h
    rw [h.1]
  · cases h
def pairD (x : PairS) : DU := .agg [.lit (.string x.key.data.toList), .lit (.string x.val.data.toList), .lit (.bool x.gone)]
def pairR (v : Value) : Option (DU × List MemPlace) := match v with
  | .agg ⟨[.string a, .string b, .bool c]⟩ => some (pairD ⟨a, b, c⟩, [])
  | _ => none
theorem pairR_mk (x : PairS) : pairR x.val' = some (pairD x, []) := rfl
theorem pairR_inv {v : Value} {x : PairS} {ps : List MemPlace} (h : pairR v = some (pairD x, ps)) : v = x.val' := by
  unfold pairR at h
  split at h
  · rename_i a b c
    obtain ⟨xk, xv, xg⟩ := x
    simp only [pairD, Option.some.injEq, Prod.mk.injEq, DataW.agg.injEq, List.cons.injEq, DataW.lit.injEq, Lit.string.injEq, Lit.bool.injEq, and_true] at h
    obtain ⟨⟨h1, h2, h3⟩, _⟩ := h
    have e1 : a = xk := ByteArray.ext (Array.toList_inj.1 h1)
    have e2 : b = xv := ByteArray.ext (Array.toList_inj.1 h2)
    rw [e1, e2, h3]
    rfl
  · cases h

theorem lit_ne {a b : ByteArray} (h : a ≠ b) : (Lit.string a.data.toList) ≠ .string b.data.toList := fun e => by
  injection e with e
  exact h (ByteArray.ext (Array.toList_inj.1 e))
theorem lit_key (a : ByteArray) : WideAt.IsKeyLit (.string a.data.toList) := trivial

/-- The map of the keys that were seen. -/
def SeenM (w : World) (b : Nat) (l : List PairS) : Prop :=
  ∃ n D, w.ownsMap Tryd.prog 9 boolR b n D ∧ n ≤ l.length ∧ ∀ s : ByteArray, D.atKey (.string s.data.toList) (.lit (.bool false)) = .lit (.bool (hasK s l))
theorem SeenM.made (w : World) : SeenM (w.alloc (.map #[] 0)) w.heap.size [] := ⟨0, _, World.ownsMap_made _ _ _ _, Nat.le_refl _, fun s => rfl⟩
theorem SeenM.kept {w w' : World} {b : Nat} {l : List PairS} {G : Nat → Prop} (h : SeenM w b l) (t : Turn G w w') (hg : ¬ G b) : SeenM w' b l := by
  obtain ⟨n, D, h1, h2⟩ := h
  exact ⟨n, D, t.map h1 hg, h2⟩
theorem SeenM.lt {w : World} {b : Nat} {l : List PairS} (h : SeenM w b l) : b < w.heap.size := by
  obtain ⟨n, D, h1, _⟩ := h
  exact World.ownsMap.lt h1
theorem SeenM.look {w : World} {b : Nat} {l : List PairS} (h : SeenM w b l) (s : ByteArray) (hs : s.size ≤ maxLen) :
    (Instr.lookup 46 (.map (some b)) (.string s) false).run Tryd.prog w = .ok (.bool (hasK s l)) w := by
  obtain ⟨n, D, h1, h2, h3⟩ := h
  obtain ⟨v, ps, hrun, hv⟩ := World.ownsMap.lookup h1 (string_keyed Tryd.underlying9) Tryd.underlying46 (z := .bool false) (zd := .lit (.bool false)) (zp := []) (by kernel_rfl) rfl (keyOf_string_mk Tryd.underlying9 hs)
  rw [h3] at hv
  rw [boolR_inv hv] at hrun
  exact hrun
theorem SeenM.add {w : World} {b : Nat} {l : List PairS} (h : SeenM w b l) (x : PairS) (hs : x.key.size ≤ maxLen) (hl : l.length < maxLen) :
    ∃ w', (Instr.mapUpdate 46 (.map (some b)) (.string x.key) (.bool true)).run Tryd.prog w = .ok () w' ∧ SeenM w' b (l ++ [x]) ∧ w.grownBy w' (some b) := by
  obtain ⟨n, D, h1, h2, h3⟩ := h
  obtain ⟨w', hrun, ho, hg⟩ := World.ownsMap.update h1 (string_keyed Tryd.underlying9) Tryd.underlying46 (by omega) (keyOf_string_mk Tryd.underlying9 hs) (val := .bool true) (d := .lit (.bool true)) (ps := []) rfl
  refine ⟨w', hrun, ⟨n + 1, _, ho, by simp; omega, fun s => ?_⟩, hg⟩
  have e : hasK s (l ++ [x]) = (hasK s l || decide (x.key = s)) := by simp [hasK]
  by_cases hx : s = x.key
  · subst hx
    rw [atKey_put_same (World.ownsMap.isMap h1) (lit_key _), e]
    simp
  · rw [atKey_put_other (lit_ne hx), h3, e]
    have hx' : ¬ x.key = s := fun c => hx c.symm
    simp [hx']

/-- The map of the last pair of each key: the pairs of a table. -/
def LastM (w : World) (b k : Nat) (l : List PairS) : Prop :=
  RisingP l ∧ ∃ D, w.ownsMap Tryd.prog 9 pairR b k D ∧ Maps.size D = l.length ∧ ∀ s : ByteArray, D.atKey (.string s.data.toList) (pairD zeroP) = pairD ((getP s l).getD zeroP) ∧ Maps.has D (.string s.data.toList) = (getP s l).isSome
theorem LastM.made (w : World) : LastM (w.alloc (.map #[] 0)) w.heap.size 0 [] := ⟨List.Pairwise.nil, _, World.ownsMap_made _ _ _ _, rfl, fun s => ⟨rfl, rfl⟩⟩
theorem LastM.kept {w w' : World} {b k : Nat} {l : List PairS} {G : Nat → Prop} (h : LastM w b k l) (t : Turn G w w') (hg : ¬ G b) : LastM w' b k l := by
  obtain ⟨hr, D, h1, h2⟩ := h
  exact ⟨hr, D, t.map h1 hg, h2⟩
theorem LastM.mono {w : World} {b k k' : Nat} {l : List PairS} (h : LastM w b k l) (hk : k ≤ k') : LastM w b k' l := by
  obtain ⟨hr, D, h1, h2⟩ := h
  exact ⟨hr, D, World.ownsMap.mono h1 hk, h2⟩
theorem LastM.lt {w : World} {b k : Nat} {l : List PairS} (h : LastM w b k l) : b < w.heap.size := by
  obtain ⟨hr, D, h1, _⟩ := h
  exact World.ownsMap.lt h1
theorem LastM.look {w : World} {b k : Nat} {l : List PairS} (h : LastM w b k l) (s : ByteArray) (hs : s.size ≤ maxLen) :
    (Instr.lookup 48 (.map (some b)) (.string s) false).run Tryd.prog w = .ok ((getP s l).getD zeroP).val' w := by
  obtain ⟨hr, D, h1, h2, h3⟩ := h
  obtain ⟨v, ps, hrun, hv⟩ := World.ownsMap.lookup h1 (string_keyed Tryd.underlying9) Tryd.underlying48 (z := zeroP.val') (zd := pairD zeroP) (zp := []) (by kernel_rfl) rfl (keyOf_string_mk Tryd.underlying9 hs)
  rw [(h3 s).1] at hv
  rw [pairR_inv hv] at hrun
  exact hrun
theorem LastM.len {w : World} {b k : Nat} {l : List PairS} (h : LastM w b k l) (ty : TypeId) : (Builtin.len_ #[48] ty #[.map (some b)]).run Tryd.prog w = .ok (.int .i64 (l.length : Nat)) w := by
  obtain ⟨hr, D, h1, h2, h3⟩ := h
  rw [← h2]
  exact World.ownsMap.len h1 Tryd.underlying48 ty
theorem LastM.put {w : World} {b k : Nat} {l : List PairS} (h : LastM w b k l) (x : PairS) (hs : x.key.size ≤ maxLen) (hk : k < maxLen) :
    ∃ w', (Instr.mapUpdate 48 (.map (some b)) (.string x.key) x.val').run Tryd.prog w = .ok () w' ∧ LastM w' b (k + 1) (putP x l) ∧ w.grownBy w' (some b) := by
  obtain ⟨hr, D, h1, h2, h3⟩ := h
  have hK := string_keyed Tryd.underlying9
  obtain ⟨w', hrun, ho, hg⟩ := World.ownsMap.update h1 hK Tryd.underlying48 hk (keyOf_string_mk Tryd.underlying9 hs) (val := x.val') (d := pairD x) (ps := []) (pairR_mk x)
  refine ⟨w', hrun, ⟨putP_rising hr, _, ho, ?_, fun s => ?_⟩, hg⟩
  · rw [size_put (World.ownsMap.tidy h1 hK), putP_length, h2, (h3 x.key).2]
  · rw [getP_putP hr]
    by_cases hx : s = x.key
    · subst hx
      rw [if_pos rfl, atKey_put_same (World.ownsMap.isMap h1) (lit_key _), has_put_same (World.ownsMap.isMap h1) (lit_key _)]
      exact ⟨rfl, rfl⟩
    · rw [if_neg hx, atKey_put_other (lit_ne hx), has_put_other (lit_ne hx)]
      exact h3 s
end Go.Proofs.YtmmamgnbonpkiaaDoor

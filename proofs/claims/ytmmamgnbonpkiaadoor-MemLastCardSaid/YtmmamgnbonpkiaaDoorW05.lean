/- Layer 5: the program's table in memory: nodes, their links on levels. -/
import Derived.Test.YtmmamgnbonpkiaaDoorM05n
import Derived.Test.YtmmamgnbonpkiaaDoorWT
import Derived.Test.YtmmamgnbonpkiaaDoorR05
import Derived.Lib.LaidTab
import Derived.Lib.TrailingZeros
namespace Go.Proofs.YtmmamgnbonpkiaaDoor
open Go.RowKit Go.Maps Go.WideMaps
set_option linter.unusedVariables false

theorem tab64_named : Tryd.prog.globalNamed "math/bits.deBruijn64tab" = some 0 := by kernel_rfl
def tab64 : List Int := Lib.deBruijn64tab.map Int.ofNat
/-- The table that TrailingZeros64 reads. -/
def Tab64 (w : World) : Prop := Lib.TabIs Tryd.prog w "math/bits.deBruijn64tab" .u8 tab64
theorem Tab64.below {w w' : World} (h : Tab64 w) (hb : Below w.heap.size w w') : Tab64 w' := by
  unfold Tab64 Lib.TabIs World.var? at *
  rw [tab64_named] at h ⊢
  simp only [Option.bind_some] at h ⊢
  have hlt : 0 < w.heap.size := by
    rcases Nat.lt_or_ge 0 w.heap.size with h' | h'
    · exact h'
    · rw [Array.getElem?_eq_none h'] at h; simp at h
  rw [hb.block _ hlt]
  exact h
theorem tab64_len : tab64.length = 64 := by decide
theorem tab64_each : ∀ j, j < 64 → 0 ≤ tab64.getD j 0 ∧ tab64.getD j 0 < 64 := by decide +kernel
theorem Tab64.cell {w : World} (h : Tab64 w) {i : Nat} (hi : i < 64) : ∃ k : Nat, k < 64 ∧ w.cell? ⟨0, i, none⟩ = some (.int .u8 (k : Int)) := by
  have h1 := Lib.TabIs.cell h tab64_named i (by rw [tab64_len]; exact hi)
  obtain ⟨e1, e2⟩ := tab64_each i hi
  obtain ⟨k, e⟩ := Int.eq_ofNat_of_zero_le e1
  exact ⟨k, by omega, by rw [h1, e]⟩

def ptrV (o : Option Nat) : Value := .pointer (o.map fun b => (⟨b, 0, none⟩ : Addr))
/-- The table at p: its nodes, what is counted, the links. All it has lies in F. -/
structure SkipL (w : World) (p : Nat) (N : List NodeS) (c s : Int) (F : Nat → Prop) (L : Nat → Nat → Option Nat) : Prop where
  head : ∃ cs : Array Value, w.heap[p]? = some (.cells cs 56 (0, 0)) ∧ cs.size = 17 ∧ (∀ j, j < 12 → cs[3 + j]? = some (ptrV (L 0 j))) ∧ cs[15]? = some (.int .i64 c) ∧ cs[16]? = some (.int .i64 s)
  node : ∀ i (h : i < N.length), ∃ cs : Array Value, w.heap[N[i].blk]? = some (.cells cs 54 (0, 0)) ∧ cs.size = 15 ∧ cs[0]? = some (.string N[i].pr.key) ∧ cs[1]? = some (.string N[i].pr.val) ∧ cs[2]? = some (.bool N[i].pr.gone) ∧
    ∀ j, j < 12 → cs[3 + j]? = some (ptrV (L (i + 1) j))
  fp : F p
  fn : ∀ x ∈ N, F x.blk
  apart : (p :: N.map NodeS.blk).Nodup
/-- .. where each link goes to the first node that is on its level. -/
def Skip (w : World) (p : Nat) (N : List NodeS) (c s : Int) (F : Nat → Prop) : Prop := SkipL w p N c s F (lkAt N)

section
variable {F G : Nat → Prop} {w w' : World} {p q j : Nat} {N : List NodeS} {c s : Int} {L L' : Nat → Nat → Option Nat}
theorem SkipL.kept (h : SkipL w p N c s F L) (t : ∀ k, F k → w'.heap[k]? = w.heap[k]?) : SkipL w' p N c s F L := by
  refine ⟨?_, fun i hi => ?_, h.fp, h.fn, h.apart⟩
  · rw [t p h.fp]; exact h.head
  · rw [t _ (h.fn _ (List.getElem_mem hi))]; exact h.node i hi
theorem SkipL.lt (h : SkipL w p N c s F L) : p < w.heap.size := by obtain ⟨cs, h1, _⟩ := h.head; exact block_lt h1
theorem SkipL.nlt (h : SkipL w p N c s F L) {x : NodeS} (hx : x ∈ N) : x.blk < w.heap.size := by
  obtain ⟨i, hi, rfl⟩ := List.mem_iff_getElem.1 hx
  obtain ⟨cs, h1, _⟩ := h.node i hi
  exact block_lt h1
theorem SkipL.turn (h : SkipL w p N c s F L) (t : Turn G w w') (hd : ∀ k, F k → ¬ G k) : SkipL w' p N c s F L := by
  obtain ⟨cs, h1, h2⟩ := h.head
  refine ⟨⟨cs, t.keeps h1 (hd _ h.fp), h2⟩, fun i hi => ?_, h.fp, h.fn, h.apart⟩
  obtain ⟨cs, h1, h2⟩ := h.node i hi
  exact ⟨cs, t.keeps h1 (hd _ (h.fn _ (List.getElem_mem hi))), h2⟩
theorem SkipL.below (h : SkipL w p N c s F L) (t : Below w.heap.size w w') : SkipL w' p N c s F L := h.turn (Turn.of_below (fun _ => False) t) (fun _ _ h => h)
theorem SkipL.mono (h : SkipL w p N c s F L) (hd : ∀ k, F k → G k) : SkipL w p N c s G L := ⟨h.head, h.node, hd _ h.fp, fun x hx => hd _ (h.fn x hx), h.apart⟩
theorem SkipL.congr (h : SkipL w p N c s F L) (e : ∀ q, q ≤ N.length → ∀ j, j < 12 → L q j = L' q j) : SkipL w p N c s F L' := by
  obtain ⟨cs, h1, h2, h3, h4, h5⟩ := h.head
  refine ⟨⟨cs, h1, h2, fun j hj => by rw [h3 j hj, e 0 (by omega) j hj], h4, h5⟩, fun i hi => ?_, h.fp, h.fn, h.apart⟩
  obtain ⟨cs, h1, h2, h3, h4, h5, h6⟩ := h.node i hi
  exact ⟨cs, h1, h2, h3, h4, h5, fun j hj => by rw [h6 j hj, e (i + 1) (by omega) j hj]⟩
/-- The block behind which q nodes have come. -/
theorem SkipL.blk (h : SkipL w p N c s F L) (hq : q ≤ N.length) : ∃ cs t, w.heap[blkAt p N q]? = some (.cells cs t (0, 0)) ∧ 15 ≤ cs.size ∧ ∀ j, j < 12 → cs[3 + j]? = some (ptrV (L q j)) := by
  cases q with
  | zero =>
    obtain ⟨cs, h1, h2, h3, _⟩ := h.head
    exact ⟨cs, _, h1, by omega, h3⟩
  | succ i =>
    obtain ⟨cs, h1, h2, _, _, _, h3⟩ := h.node i (by omega)
    rw [blkAt_succ (show i < N.length by omega)]
    exact ⟨cs, _, h1, by omega, h3⟩
theorem SkipL.link (h : SkipL w p N c s F L) (hq : q ≤ N.length) (hj : j < 12) : w.cell? ⟨blkAt p N q, 3 + j, none⟩ = some (ptrV (L q j)) := by
  obtain ⟨cs, t, h1, _, h3⟩ := h.blk hq
  rw [block_cell h1]; exact h3 j hj
theorem SkipL.free (h : SkipL w p N c s F L) (hq : q ≤ N.length) (i : Nat) : w.frozen? ⟨blkAt p N q, i, none⟩ = false := by
  obtain ⟨cs, t, h1, _⟩ := h.blk hq
  exact block_free h1 i
theorem SkipL.key (h : SkipL w p N c s F L) {i : Nat} (hi : i < N.length) : w.cell? ⟨N[i].blk, 0, none⟩ = some (.string N[i].pr.key) ∧ w.cell? ⟨N[i].blk, 1, none⟩ = some (.string N[i].pr.val) ∧ w.cell? ⟨N[i].blk, 2, none⟩ = some (.bool N[i].pr.gone) := by
  obtain ⟨cs, h1, h2, h3, h4, h5, _⟩ := h.node i hi
  exact ⟨by rw [block_cell h1]; exact h3, by rw [block_cell h1]; exact h4, by rw [block_cell h1]; exact h5⟩
theorem SkipL.counts (h : SkipL w p N c s F L) : w.cell? ⟨p, 15, none⟩ = some (.int .i64 c) ∧ w.cell? ⟨p, 16, none⟩ = some (.int .i64 s) := by
  obtain ⟨cs, h1, h2, _, h4, h5⟩ := h.head
  exact ⟨by rw [block_cell h1]; exact h4, by rw [block_cell h1]; exact h5⟩
theorem SkipL.ne (h : SkipL w p N c s F L) {i k : Nat} (hi : i < N.length) (hk : k < N.length) (e : i ≠ k) : N[i].blk ≠ N[k].blk := fun e2 => by
  have := blkAt_inj (p := p) h.apart (q := i + 1) (r := k + 1) (by omega) (by omega) (by rw [blkAt_succ hi, blkAt_succ hk, e2])
  omega
theorem SkipL.neP (h : SkipL w p N c s F L) {i : Nat} (hi : i < N.length) : N[i].blk ≠ p := fun e2 => by
  have := blkAt_inj (p := p) h.apart (q := i + 1) (r := 0) (by omega) (by omega) (by rw [blkAt_succ hi, e2]; rfl)
  omega
theorem heap_set_other {w : World} {b i k : Nat} {v : Value} (e : k ≠ b) : (w.setCell ⟨b, i, none⟩ v).heap[k]? = w.heap[k]? := Below.heap_setCell _ _ _ _ (fun e2 => e (by first | exact e2 | exact e2.symm))

theorem SkipL.setCount (h : SkipL w p N c s F L) (c' : Int) : SkipL (w.setCell ⟨p, 15, none⟩ (.int .i64 c')) p N c' s F L := by
  obtain ⟨cs, h1, h2, h3, h4, h5⟩ := h.head
  refine ⟨⟨_, block_set h1 15 _, by simp [h2], fun j hj => ?_, ?_, ?_⟩, fun i hi => ?_, h.fp, h.fn, h.apart⟩
  · rw [Array.getElem?_setIfInBounds_ne (by omega)]; exact h3 j hj
  · rw [Array.getElem?_setIfInBounds_self_of_lt (by omega)]
  · rw [Array.getElem?_setIfInBounds_ne (by omega)]; exact h5
  · rw [heap_set_other (h.neP hi)]; exact h.node i hi
theorem SkipL.setBytes (h : SkipL w p N c s F L) (s' : Int) : SkipL (w.setCell ⟨p, 16, none⟩ (.int .i64 s')) p N c s' F L := by
  obtain ⟨cs, h1, h2, h3, h4, h5⟩ := h.head
  refine ⟨⟨_, block_set h1 16 _, by simp [h2], fun j hj => ?_, ?_, ?_⟩, fun i hi => ?_, h.fp, h.fn, h.apart⟩
  · rw [Array.getElem?_setIfInBounds_ne (by omega)]; exact h3 j hj
  · rw [Array.getElem?_setIfInBounds_ne (by omega)]; exact h4
  · rw [Array.getElem?_setIfInBounds_self_of_lt (by omega)]
  · rw [heap_set_other (h.neP hi)]; exact h.node i hi
/-- One link is set. -/
theorem SkipL.setLink (h : SkipL w p N c s F L) (hq : q ≤ N.length) (hj : j < 12) (o : Option Nat) : SkipL (w.setCell ⟨blkAt p N q, 3 + j, none⟩ (ptrV o)) p N c s F (fun q' j' => if q' = q ∧ j' = j then o else L q' j') := by
  have other : ∀ k, k ≤ N.length → k ≠ q → (w.setCell ⟨blkAt p N q, 3 + j, none⟩ (ptrV o)).heap[blkAt p N k]? = w.heap[blkAt p N k]? := fun k hk e => heap_set_other (fun e2 => e (blkAt_inj h.apart hk hq e2))
  refine ⟨?_, fun i hi => ?_, h.fp, h.fn, h.apart⟩
  · obtain ⟨cs, h1, h2, h3, h4, h5⟩ := h.head
    by_cases e : q = 0
    · subst e
      refine ⟨_, block_set h1 (3 + j) _, by simp [h2], fun j' hj' => ?_, ?_, ?_⟩
      · by_cases e : j' = j
        · subst e
          rw [Array.getElem?_setIfInBounds_self_of_lt (by omega)]; simp
        · rw [Array.getElem?_setIfInBounds_ne (by omega), h3 j' hj', if_neg (fun c => e c.2)]
      · rw [Array.getElem?_setIfInBounds_ne (by omega)]; exact h4
      · rw [Array.getElem?_setIfInBounds_ne (by omega)]; exact h5
    · refine ⟨cs, (other 0 (by omega) (fun c => e c.symm)).trans h1, h2, fun j' hj' => ?_, h4, h5⟩
      rw [h3 j' hj', if_neg (fun c => e c.1.symm)]
  · obtain ⟨cs, h1, h2, h3, h4, h5, h6⟩ := h.node i hi
    by_cases e : q = i + 1
    · subst e
      have hb : blkAt p N (i + 1) = N[i].blk := blkAt_succ hi
      rw [hb]
      refine ⟨_, block_set h1 (3 + j) _, by simp [h2], ?_, ?_, ?_, fun j' hj' => ?_⟩
      · rw [Array.getElem?_setIfInBounds_ne (by omega)]; exact h3
      · rw [Array.getElem?_setIfInBounds_ne (by omega)]; exact h4
      · rw [Array.getElem?_setIfInBounds_ne (by omega)]; exact h5
      · by_cases e : j' = j
        · subst e
          rw [Array.getElem?_setIfInBounds_self_of_lt (by omega)]; simp
        · rw [Array.getElem?_setIfInBounds_ne (by omega), h6 j' hj', if_neg (fun c => e c.2)]
    · have ho := other (i + 1) (by omega) (fun c => e c.symm)
      rw [blkAt_succ hi] at ho
      refine ⟨cs, ho.trans h1, h2, h3, h4, h5, fun j' hj' => ?_⟩
      rw [h6 j' hj', if_neg (fun c => e c.1.symm)]
/-- A node's pair is set, cell by cell. -/
theorem SkipL.setPair (h : SkipL w p N c s F L) {i : Nat} (hi : i < N.length) (x : PairS) (k : Nat) (v : Value) (hk : k < 3)
    (e0 : (if k = 0 then some v else some (.string N[i].pr.key)) = some (.string x.key)) (e1 : (if k = 1 then some v else some (.string N[i].pr.val)) = some (.string x.val)) (e2 : (if k = 2 then some v else some (.bool N[i].pr.gone)) = some (.bool x.gone)) :
    SkipL (w.setCell ⟨N[i].blk, k, none⟩ v) p (N.set i { N[i] with pr := x }) c s F L := by
  have hm : (N.set i { N[i] with pr := x }).map NodeS.blk = N.map NodeS.blk := by
    rw [List.map_set]
    apply List.ext_getElem?
    intro a
    by_cases e : a = i
    · subst e; simp [hi]
    · rw [List.getElem?_set_ne (fun c => e c.symm)]
  have hl : (N.set i { N[i] with pr := x }).length = N.length := by simp
  obtain ⟨cs, h1, h2, h3⟩ := h.head
  refine ⟨⟨cs, (heap_set_other (fun e => h.neP hi e.symm)).trans h1, h2, h3⟩, fun a ha => ?_, h.fp, fun y hy => ?_, by rw [hm]; exact h.apart⟩
  · rw [hl] at ha
    obtain ⟨cs, h1, h2, h3, h4, h5, h6⟩ := h.node a ha
    by_cases e : a = i
    · subst e
      simp only [List.getElem_set_self]
      have at' : ∀ m, m < 15 → (cs.setIfInBounds k v)[m]? = if k = m then some v else cs[m]? := fun m hm => by
        by_cases e : k = m
        · subst e; rw [if_pos rfl, Array.getElem?_setIfInBounds_self_of_lt (by omega)]
        · rw [if_neg e, Array.getElem?_setIfInBounds_ne e]
      refine ⟨_, block_set h1 k _, by simp [h2], ?_, ?_, ?_, fun j hj => ?_⟩
      · rw [at' 0 (by omega), h3]; exact e0
      · rw [at' 1 (by omega), h4]; exact e1
      · rw [at' 2 (by omega), h5]; exact e2
      · rw [at' (3 + j) (by omega), if_neg (by omega)]; exact h6 j hj
    · simp only [List.getElem_set_ne (fun c => e c.symm)]
      exact ⟨cs, (heap_set_other (h.ne ha hi e)).trans h1, h2, h3, h4, h5, h6⟩
  · obtain ⟨a, ha, rfl⟩ := List.mem_iff_getElem.1 hy
    rw [hl] at ha
    by_cases e : a = i
    · subst e
      simp only [List.getElem_set_self]
      exact h.fn N[a] (List.getElem_mem _)
    · rw [List.getElem_set_ne (fun c => e c.symm)]
      exact h.fn _ (List.getElem_mem _)
/-- A node more, to which nothing leads yet. -/
theorem SkipL.addNode (h : SkipL w p N c s F L) {pl : Nat} (hpl : pl ≤ N.length) {x : NodeS} (hb : w.heap.size ≤ x.blk) {cs : Array Value} (hw : w'.heap[x.blk]? = some (.cells cs 54 (0, 0))) (hlw : Below w.heap.size w w') (hG : ∀ k, F k → G k) (hGb : G x.blk)
    (hs : cs.size = 15) (h0 : cs[0]? = some (.string x.pr.key)) (h1 : cs[1]? = some (.string x.pr.val)) (h2 : cs[2]? = some (.bool x.pr.gone)) (h3 : ∀ j, j < 12 → cs[3 + j]? = some (ptrV none)) :
    SkipL w' p (withNode N pl x) c s G (fun q j => if q ≤ pl then L q j else if q = pl + 1 then none else L (q - 1) j) := by
  have h' := h.below hlw
  refine ⟨?_, fun i hi => ?_, hG _ h.fp, fun y hy => ?_, ?_⟩
  · obtain ⟨cs, a1, a2, a3, a4, a5⟩ := h'.head
    exact ⟨cs, a1, a2, fun j hj => by rw [if_pos (Nat.zero_le _)]; exact a3 j hj, a4, a5⟩
  · have hi' := hi
    rw [withNode_len hpl] at hi'
    have hat := withNode_at hpl x i
    rw [List.getElem?_eq_getElem hi] at hat
    rcases Nat.lt_trichotomy i pl with e | e | e
    · rw [if_pos e, List.getElem?_eq_getElem (by omega), Option.some.injEq] at hat
      rw [hat]
      obtain ⟨cs, a1, a2, a3, a4, a5, a6⟩ := h'.node i (by omega)
      exact ⟨cs, a1, a2, a3, a4, a5, fun j hj => by rw [if_pos (show i + 1 ≤ pl by omega)]; exact a6 j hj⟩
    · rw [if_neg (by omega), if_pos e, Option.some.injEq] at hat
      rw [hat]
      exact ⟨cs, hw, hs, h0, h1, h2, fun j hj => by rw [if_neg (show ¬ i + 1 ≤ pl by omega), if_pos (show i + 1 = pl + 1 by omega)]; exact h3 j hj⟩
    · rw [if_neg (by omega), if_neg (by omega), List.getElem?_eq_getElem (by omega), Option.some.injEq] at hat
      rw [hat]
      obtain ⟨cs, a1, a2, a3, a4, a5, a6⟩ := h'.node (i - 1) (by omega)
      refine ⟨cs, a1, a2, a3, a4, a5, fun j hj => ?_⟩
      rw [if_neg (show ¬ i + 1 ≤ pl by omega), if_neg (show ¬ i + 1 = pl + 1 by omega), a6 j hj, show i - 1 + 1 = i + 1 - 1 by omega]
  · unfold withNode at hy
    rcases List.mem_append.1 hy with hy | hy
    · exact hG _ (h.fn _ (List.mem_of_mem_take hy))
    · rcases List.mem_cons.1 hy with rfl | hy
      · exact hGb
      · exact hG _ (h.fn _ (List.mem_of_mem_drop hy))
  · have e : (p :: (withNode N pl x).map NodeS.blk).Perm (x.blk :: p :: N.map NodeS.blk) := by
      unfold withNode
      rw [List.map_append, List.map_cons]
      have e1 : ((N.take pl).map NodeS.blk ++ x.blk :: (N.drop pl).map NodeS.blk).Perm (x.blk :: ((N.take pl).map NodeS.blk ++ (N.drop pl).map NodeS.blk)) := List.perm_middle
      rw [← List.map_append, List.take_append_drop] at e1
      exact (e1.cons p).trans (List.Perm.swap _ _ _)
    refine e.nodup_iff.2 (List.nodup_cons.2 ⟨fun hm => ?_, h.apart⟩)
    rcases List.mem_cons.1 hm with e | hm
    · have := h.lt; omega
    · obtain ⟨y, hy, e⟩ := List.mem_map.1 hm
      have := h.nlt hy; omega
end

/-- The pairs, in order; each node on a level or more. -/
structure TabP (w : World) (p : Nat) (l : List PairS) (F : Nat → Prop) (N : List NodeS) : Prop where
  sk : Skip w p N (l.length : Nat) (sizeP l : Nat) F
  prs : N.map NodeS.pr = l
  hi : ∀ x ∈ N, 1 ≤ x.high
  rising : RisingP l
def TabAt (w : World) (p : Nat) (l : List PairS) (F : Nat → Prop) : Prop := ∃ N, TabP w p l F N
section
variable {F G : Nat → Prop} {w w' : World} {p : Nat} {l : List PairS} {N : List NodeS}
theorem TabP.len (h : TabP w p l F N) : N.length = l.length := by rw [← h.prs, List.length_map]
theorem TabP.at (h : TabP w p l F N) {i : Nat} (hi : i < N.length) : N[i].pr = l[i]'(by rw [← h.len]; exact hi) := by
  have := h.prs
  subst this
  simp
theorem TabP.one (h : TabP w p l F N) {i : Nat} (hi : i < N.length) : 1 ≤ hiAt N i := by rw [hiAt_lt hi]; exact h.hi _ (List.getElem_mem hi)
theorem TabP.kept (h : TabP w p l F N) (t : Turn G w w') (hd : ∀ k, F k → ¬ G k) : TabP w' p l F N := ⟨SkipL.turn h.sk t hd, h.prs, h.hi, h.rising⟩
theorem TabP.below (h : TabP w p l F N) (t : Below w.heap.size w w') : TabP w' p l F N := h.kept (Turn.of_below (fun _ => False) t) (fun _ _ h => h)
theorem TabAt.kept (h : TabAt w p l F) (t : Turn G w w') (hd : ∀ k, F k → ¬ G k) : TabAt w' p l F := by
  obtain ⟨N, h⟩ := h
  exact ⟨N, h.kept t hd⟩
theorem TabAt.mono (h : TabAt w p l F) (hd : ∀ k, F k → G k) : TabAt w p l G := by
  obtain ⟨N, h⟩ := h
  exact ⟨N, SkipL.mono h.sk hd, h.prs, h.hi, h.rising⟩
/-- The keys of the nodes beyond a place are not before the key. -/
theorem place_beyond {k : ByteArray} {l : List PairS} (hr : RisingP l) {i : Nat} (hi : i < l.length) (h : placeP k l ≤ i) : befB l[i].key k = false := by
  by_cases e : placeP k l = i
  · subst e; exact placeP_at hi
  · have h1 : placeP k l < l.length := by omega
    have h2 := placeP_at h1
    have h3 := List.pairwise_iff_getElem.1 hr _ _ h1 hi (by omega)
    cases hb : befB l[i].key k with
    | false => rfl
    | true => rw [befB_trans h3 hb] at h2; cases h2
end
end Go.Proofs.YtmmamgnbonpkiaaDoor

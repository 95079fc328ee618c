/- Layer 14: the contract of slices.DeleteFunc over jobs and clocks that are the call's own. -/
import Derived.Test.YtlkfpeefjpmmfaaW14c
namespace Go.Proofs.Ytlkfpeefjpmmfaa
open Go.RowKit
set_option linter.unusedVariables false

/-- clear over elements of several cells, in a block of the call's own. -/
theorem clear_own (w : World) {t e ty : TypeId} {z : Value} {sz : Nat} (ht : Try.prog.underlying t = some (.slice e)) (hv : ∀ w, (zeroValue e).run Try.prog w = .ok z w) (hz : z.cells.size = sz) (h1 : ∀ u ∈ z.cells, u.oneCell' = true) {q o n c : Nat} {cur : Array Value} (hn : 0 < n)
    (hq : w.heap[q]? = some (.cells cur e (0, 0))) (hl : o + n * sz ≤ cur.size) :
    (Builtin.clear_ #[t] ty #[.slice (some ⟨q, o, none⟩) n c]).run Try.prog w = .ok (.tuple #[]) (w.setRow q (cur.toList.take o ++ (Builtin.zeroCells z.cells n).toList ++ cur.toList.drop (o + n * sz)).toArray) := by
  have hlen : (Builtin.zeroCells z.cells n).toList.length = n * sz := by rw [Array.length_toList, size_zeroCells, hz]
  have hone : ∀ v ∈ (Builtin.zeroCells z.cells n).toList, v.oneCell' = true := by
    intro v hv
    rw [Array.mem_toList_iff] at hv
    unfold Builtin.zeroCells at hv
    obtain ⟨i, hi, rfl⟩ := Array.mem_map.1 hv
    rw [Array.mem_range] at hi
    have h0 : 0 < z.cells.size := by
      rcases Nat.eq_zero_or_pos z.cells.size with h0 | h0
      · rw [h0] at hi; omega
      · exact h0
    have hm : i % z.cells.size < z.cells.size := Nat.mod_lt _ h0
    rw [getElem!_pos z.cells _ hm]
    exact h1 _ (Array.getElem_mem hm)
  have hst := run_storeCells_at Try.prog q o e (Builtin.zeroCells z.cells n).toList 0 cur w hq (by rw [hlen]; simpa using hl) hone
  simp only [Nat.add_zero] at hst
  obtain ⟨m, rfl⟩ : ∃ m, n = m + 1 := ⟨n - 1, by omega⟩
  rw [hlen] at hst
  simp [Builtin.clear_, run_underlying ht, hv, hst]
/-- What is kept up to a place. -/
def keptL {α : Type} (p : α → Bool) (l : List α) (j : Nat) : List α := (l.take j).filter fun x => !p x
theorem kept_len {α : Type} (p : α → Bool) (l : List α) (j : Nat) : (keptL p l j).length ≤ j := by
  have h1 := List.length_filter_le (fun x => !p x) (l.take j)
  have h2 := List.length_take_le j l
  unfold keptL
  omega
theorem kept_yes {α : Type} {p : α → Bool} {l : List α} {j : Nat} (h : j < l.length) (hp : p l[j] = true) : keptL p l (j + 1) = keptL p l j := by
  unfold keptL
  rw [List.take_succ_eq_append_getElem h, List.filter_append, List.filter_cons_of_neg (by rw [hp]; decide)]
  simp
theorem kept_no {α : Type} {p : α → Bool} {l : List α} {j : Nat} (h : j < l.length) (hp : p l[j] = false) : keptL p l (j + 1) = keptL p l j ++ [l[j]] := by
  unfold keptL
  rw [List.take_succ_eq_append_getElem h, List.filter_append, List.filter_cons_of_pos (by rw [hp]; rfl)]
  simp
theorem kept_all {α : Type} (p : α → Bool) (l : List α) : keptL p l l.length = l.filter fun x => !p x := by unfold keptL; rw [List.take_length]
/-- A row while it is being shortened: what is kept stands ahead, what is still to come stands where it stood. -/
structure KeptM {α : Type} (p : α → Bool) (l m : List α) (i j : Nat) : Prop where
  len : m.length = l.length
  lo : i < j
  hi : j ≤ l.length
  ahead : m.take i = keptL p l j
  n : i = (keptL p l j).length
  rest : m.drop j = l.drop j
section
variable {α : Type} {p : α → Bool} {l m : List α} {i j : Nat}
theorem KeptM.start {k : Nat} (h : l.findIdx? p = some k) : KeptM p l l k (k + 1) := by
  obtain ⟨hk, hp, h0⟩ := List.findIdx?_eq_some_iff_getElem.1 h
  have e : keptL p l (k + 1) = l.take k := by
    rw [kept_yes hk hp]
    unfold keptL
    rw [List.filter_eq_self]
    intro x hx
    obtain ⟨j, hj, rfl⟩ := List.mem_take_iff_getElem.1 hx
    have := h0 j (by omega)
    simpa using this
  exact ⟨rfl, by omega, hk, e.symm, by rw [e, List.length_take]; omega, rfl⟩
theorem KeptM.at (h : KeptM p l m i j) (hj : j < l.length) : ∃ hm : j < m.length, m[j] = l[j] := by
  have hl := h.len
  refine ⟨by omega, ?_⟩
  have e := congrArg (fun x => x[0]?) h.rest
  simp only [List.getElem?_drop, Nat.add_zero] at e
  rw [List.getElem?_eq_getElem (by omega), List.getElem?_eq_getElem hj] at e
  exact Option.some.inj e
theorem KeptM.skip (h : KeptM p l m i j) (hj : j < l.length) (hp : p l[j] = true) : KeptM p l m i (j + 1) :=
  ⟨h.len, by have := h.lo; omega, hj, by rw [kept_yes hj hp]; exact h.ahead, by rw [kept_yes hj hp]; exact h.n, by
    have := congrArg (List.drop 1) h.rest
    rwa [List.drop_drop, List.drop_drop] at this⟩
theorem KeptM.keep (h : KeptM p l m i j) (hj : j < l.length) (hp : p l[j] = false) : KeptM p l (m.set i l[j]) (i + 1) (j + 1) := by
  have hl := h.len
  have hlo := h.lo
  refine ⟨by rw [List.length_set]; exact hl, by omega, hj, ?_, ?_, ?_⟩
  · rw [kept_no hj hp, ← h.ahead, List.take_succ_eq_append_getElem (by rw [List.length_set]; omega), List.take_set_of_le (Nat.le_refl _), List.getElem_set_self]
  · rw [kept_no hj hp, List.length_append, List.length_singleton, ← h.n]
  · rw [List.drop_set_of_lt (by omega)]
    have := congrArg (List.drop 1) h.rest
    rwa [List.drop_drop, List.drop_drop] at this
theorem KeptM.ends (h : KeptM p l m i l.length) : i = (l.filter fun x => !p x).length ∧ m.take i = l.filter fun x => !p x := by
  have h1 := h.n
  have h2 := h.ahead
  rw [kept_all] at h1 h2
  exact ⟨h1, h2⟩
theorem rowR_take (f : α → List Value) (sz : Nat) (hf : ∀ x, (f x).length = sz) : ∀ (l : List α) (i : Nat), (rowR f l).take (i * sz) = rowR f (l.take i)
  | [], i => by simp [rowR]
  | x :: r, 0 => by simp [rowR]
  | x :: r, i + 1 => by
    have e : rowR f (x :: r) = f x ++ rowR f r := rfl
    have e2 : rowR f ((x :: r).take (i + 1)) = f x ++ rowR f (r.take i) := rfl
    rw [e, e2, List.take_append, hf, Nat.add_mul, Nat.one_mul, Nat.add_sub_cancel, rowR_take f sz hf r i, List.take_of_length_le (by rw [hf]; omega)]
end
/-- A row that is cut, its tail cleared. -/
theorem row_cut {w : World} {base : Nat} {E : TypeId} {sz q n cap i : Nat} {xs zs : List Value} (h : w.ownsRow base E sz (.slice (some ⟨q, 0, none⟩) n cap) n xs) (hi : i ≤ n) (hz : zs.length = (n - i) * sz) :
    ∃ cur, w.heap[q]? = some (.cells cur E (0, 0)) ∧ i * sz + (n - i) * sz ≤ cur.size ∧ (w.setRow q (cur.toList.take (i * sz) ++ zs ++ cur.toList.drop (i * sz + (n - i) * sz)).toArray).ownsRow base E sz (.slice (some ⟨q, 0, none⟩) i cap) i (xs.take (i * sz)) ∧
      w.grownBy (w.setRow q (cur.toList.take (i * sz) ++ zs ++ cur.toList.drop (i * sz + (n - i) * sz)).toArray) (some q) := by
  obtain ⟨hl, hr⟩ := h
  rcases hr with ⟨hv, _⟩ | ⟨g, cap', cur, hv, hb, hg, hle, hcm, hcs, htk⟩
  · cases hv
  · injection hv with e1 e2 e3
    injection e1 with e1
    injection e1 with e1
    subst e1 e3
    have hm : i * sz + (n - i) * sz = n * sz := by rw [← Nat.add_mul]; congr 1; omega
    have hnc : n * sz ≤ cap * sz := Nat.mul_le_mul_right _ hle
    have hin : i * sz ≤ n * sz := Nat.mul_le_mul_right _ hi
    refine ⟨cur, hg, by omega, ⟨?_, .inr ⟨q, cap, _, rfl, hb, setRow_heap w q cur _ E _ hg, by omega, hcm, ?_, ?_⟩⟩, ⟨rfl, rfl, rfl, by simp, fun k _ hk => setRow_other w q k _ (fun e => hk (by rw [e]))⟩⟩
    · rw [List.length_take]; omega
    · rw [List.size_toArray, List.length_append, List.length_append, List.length_take, List.length_drop, Array.length_toList, hz]
      omega
    · have hlt : (cur.toList.take (i * sz)).length = i * sz := by rw [List.length_take, Array.length_toList]; omega
      rw [List.toList_toArray, List.append_assoc, List.take_append, hlt, Nat.sub_self, List.take_zero, List.append_nil, List.take_of_length_le (by omega), ← htk, List.take_take]
      congr 1
      omega

theorem grown_trans {a b c : World} {r : Option Nat} (h : a.grownBy b r) (k : b.grownBy c r) : a.grownBy c r :=
  ⟨k.os.trans h.os, k.tape.trans h.tape, k.output.trans h.output, Nat.le_trans h.size k.size, fun i hi hne => (k.block i (Nat.lt_of_lt_of_le hi h.size) hne).trans (h.block i hi hne)⟩
theorem grown_below {a b : World} (r : Option Nat) (t : Below a.heap.size a b) : a.grownBy b r := ⟨t.os, t.tape, t.output, t.size, fun k hk _ => t.block k hk⟩
theorem set4 {α : Type} (a b c d : α) : ∀ (L : List α) (k : Nat), k + 4 ≤ L.length → (((L.set k a).set (k + 1) b).set (k + 2) c).set (k + 3) d = L.take k ++ [a, b, c, d] ++ L.drop (k + 4)
  | x0 :: x1 :: x2 :: x3 :: r, 0, _ => by simp
  | x :: r, k + 1, h => by
    have ih := set4 a b c d r k (by simpa using h)
    simpa using ih
  | [], k, h => by simp at h
  | [_], 0, h => by simp at h
  | [_, _], 0, h => by simp at h
  | [_, _, _], 0, h => by simp at h
theorem set3 {α : Type} (a b c : α) : ∀ (L : List α) (k : Nat), k + 3 ≤ L.length → ((L.set k a).set (k + 1) b).set (k + 2) c = L.take k ++ [a, b, c] ++ L.drop (k + 3)
  | x0 :: x1 :: x2 :: r, 0, _ => by simp
  | x :: r, k + 1, h => by
    have ih := set3 a b c r k (by simpa using h)
    simpa using ih
  | [], k, h => by simp at h
  | [_], 0, h => by simp at h
  | [_, _], 0, h => by simp at h
theorem rowR_set {α : Type} (f : α → List Value) (sz : Nat) (hf : ∀ x, (f x).length = sz) (x : α) : ∀ (m : List α) (i : Nat), i < m.length → rowR f (m.set i x) = (rowR f m).take (i * sz) ++ f x ++ (rowR f m).drop (i * sz + sz)
  | y :: r, 0, _ => by
    have e1 : rowR f (y :: r) = f y ++ rowR f r := rfl
    have e2 : rowR f ((y :: r).set 0 x) = f x ++ rowR f r := rfl
    rw [e1, e2, Nat.zero_mul, List.take_zero, List.nil_append, Nat.zero_add, List.drop_left' (hf y)]
  | y :: r, i + 1, h => by
    have ih := rowR_set f sz hf x r i (by simpa using h)
    have e1 : rowR f (y :: r) = f y ++ rowR f r := rfl
    have e2 : rowR f ((y :: r).set (i + 1) x) = f y ++ rowR f (r.set i x) := rfl
    have e3 : (i + 1) * sz = sz + i * sz := by rw [Nat.add_mul]; omega
    have h1 : (f y ++ rowR f r).take (sz + i * sz) = f y ++ (rowR f r).take (i * sz) := by rw [← hf y, List.take_length_add_append]
    have h2 : (f y ++ rowR f r).drop (sz + i * sz + sz) = (rowR f r).drop (i * sz + sz) := by
      rw [Nat.add_assoc]
      conv => lhs; arg 1; arg 1; rw [← hf y]
      rw [List.drop_length_add_append]
    rw [e1, e2, ih, e3, h1, h2]
    simp only [List.append_assoc]

theorem row_set4 {w : World} {base q n cap i : Nat} {m : List JobS} (h : w.ownsRow base 49 4 (.slice (some ⟨q, 0, none⟩) n cap) n (rowR JobS.cells m)) (hn : m.length = n) (hi : i < n) (x : JobS) :
    ((((w.setCell ⟨q, i * 4, none⟩ (.int .i64 x.id)).setCell ⟨q, i * 4 + 1, none⟩ (.int .i64 x.step)).setCell ⟨q, i * 4 + 2, none⟩ (.bool x.undo)).setCell ⟨q, i * 4 + 3, none⟩ (.int .i64 x.tryN)).ownsRow base 49 4 (.slice (some ⟨q, 0, none⟩) n cap) n (rowR JobS.cells (m.set i x)) ∧ w.grownBy ((((w.setCell ⟨q, i * 4, none⟩ (.int .i64 x.id)).setCell ⟨q, i * 4 + 1, none⟩ (.int .i64 x.step)).setCell ⟨q, i * 4 + 2, none⟩ (.bool x.undo)).setCell ⟨q, i * 4 + 3, none⟩ (.int .i64 x.tryN)) (some q) := by
  have hl : (rowR JobS.cells m).length = m.length * 4 := rowR_len JobS.cells 4 JobS.len m
  have e := rowR_set JobS.cells 4 JobS.len x m i (by omega)
  have e2 : JobS.cells x = [.int .i64 x.id, .int .i64 x.step, .bool x.undo, .int .i64 x.tryN] := rfl
  rw [e2, ← set4 _ _ _ _ _ _ (by omega)] at e
  rw [e]
  obtain ⟨h1, g1⟩ := h.stored (i * 4) (.int .i64 x.id)
  obtain ⟨h2, g2⟩ := h1.stored (i * 4 + 1) (.int .i64 x.step)
  obtain ⟨h3, g3⟩ := h2.stored (i * 4 + 2) (.bool x.undo)
  obtain ⟨h4, g4⟩ := h3.stored (i * 4 + 3) (.int .i64 x.tryN)
  exact ⟨h4, grown_trans (grown_trans (grown_trans g1 g2) g3) g4⟩
theorem own_cellsJ {w : World} {base q n cap j : Nat} {m : List JobS} (h : w.ownsRow base 49 4 (.slice (some ⟨q, 0, none⟩) n cap) n (rowR JobS.cells m)) (hj : j < m.length) (hn : m.length = n) :
    w.cell? ⟨q, j * 4, none⟩ = some (.int .i64 m[j].id) ∧ w.cell? ⟨q, j * 4 + 1, none⟩ = some (.int .i64 m[j].step) ∧ w.cell? ⟨q, j * 4 + 2, none⟩ = some (.bool m[j].undo) ∧ w.cell? ⟨q, j * 4 + 3, none⟩ = some (.int .i64 m[j].tryN) ∧ ∀ t, w.frozen? ⟨q, t, none⟩ = false := by
  have hat := rowR_at JobS.cells 4 JobS.len m j hj
  have hlt : ∀ t, t < 4 → j * 4 + t < n * 4 := fun t ht => by omega
  exact ⟨(h.cellAt (j * 4 + 0) (hlt 0 (by decide))).trans (hat 0 _ rfl), (h.cellAt _ (hlt 1 (by decide))).trans (hat 1 _ rfl), (h.cellAt _ (hlt 2 (by decide))).trans (hat 2 _ rfl), (h.cellAt _ (hlt 3 (by decide))).trans (hat 3 _ rfl), fun t => h.frozenAt t⟩

theorem row_set3 {w : World} {base q n cap i : Nat} {m : List ClkS} (h : w.ownsRow base 51 3 (.slice (some ⟨q, 0, none⟩) n cap) n (rowR ClkS.cells m)) (hn : m.length = n) (hi : i < n) (x : ClkS) :
    (((w.setCell ⟨q, i * 3, none⟩ (.int .i64 x.id)).setCell ⟨q, i * 3 + 1, none⟩ (.int .i64 x.step)).setCell ⟨q, i * 3 + 2, none⟩ (.int .i64 x.tick)).ownsRow base 51 3 (.slice (some ⟨q, 0, none⟩) n cap) n (rowR ClkS.cells (m.set i x)) ∧ w.grownBy (((w.setCell ⟨q, i * 3, none⟩ (.int .i64 x.id)).setCell ⟨q, i * 3 + 1, none⟩ (.int .i64 x.step)).setCell ⟨q, i * 3 + 2, none⟩ (.int .i64 x.tick)) (some q) := by
  have hl : (rowR ClkS.cells m).length = m.length * 3 := rowR_len ClkS.cells 3 ClkS.len m
  have e := rowR_set ClkS.cells 3 ClkS.len x m i (by omega)
  have e2 : ClkS.cells x = [.int .i64 x.id, .int .i64 x.step, .int .i64 x.tick] := rfl
  rw [e2, ← set3 _ _ _ _ _ (by omega)] at e
  rw [e]
  obtain ⟨h1, g1⟩ := h.stored (i * 3) (.int .i64 x.id)
  obtain ⟨h2, g2⟩ := h1.stored (i * 3 + 1) (.int .i64 x.step)
  obtain ⟨h3, g3⟩ := h2.stored (i * 3 + 2) (.int .i64 x.tick)
  exact ⟨h3, grown_trans (grown_trans g1 g2) g3⟩
theorem own_cellsC {w : World} {base q n cap j : Nat} {m : List ClkS} (h : w.ownsRow base 51 3 (.slice (some ⟨q, 0, none⟩) n cap) n (rowR ClkS.cells m)) (hj : j < m.length) (hn : m.length = n) :
    w.cell? ⟨q, j * 3, none⟩ = some (.int .i64 m[j].id) ∧ w.cell? ⟨q, j * 3 + 1, none⟩ = some (.int .i64 m[j].step) ∧ w.cell? ⟨q, j * 3 + 2, none⟩ = some (.int .i64 m[j].tick) ∧ ∀ t, w.frozen? ⟨q, t, none⟩ = false := by
  have hat := rowR_at ClkS.cells 3 ClkS.len m j hj
  have hlt : ∀ t, t < 3 → j * 3 + t < n * 3 := fun t ht => by omega
  exact ⟨(h.cellAt (j * 3 + 0) (hlt 0 (by decide))).trans (hat 0 _ rfl), (h.cellAt _ (hlt 1 (by decide))).trans (hat 1 _ rfl), (h.cellAt _ (hlt 2 (by decide))).trans (hat 2 _ rfl), fun t => h.frozenAt t⟩

set_option maxHeartbeats 4000000 in
set_option maxRecDepth 100000 in
theorem deleteJ_any {w : World} {base : Nat} {v : Value} {l : List JobS} (ho : w.ownsRow base 49 4 v l.length (rowR JobS.cells l)) (hb : l.length ≤ 1000) (g : FuncId) (cb : Array Value) (eg : ∀ args w, (callFunc g args).run Try.prog w = .ok (.enter g args) w) (p : JobS → Bool)
    (I : World → Prop) (hI : I w) (hIg : ∀ wx w', I wx → wx.grownBy w' v.ownBlock → I w') (HC : ∀ wx, I wx → ∀ x ∈ l, Calls Try.prog g (#[x.val'] ++ cb) wx fun e w' => e = .returned (.bool (p x)) ∧ Below wx.heap.size wx w') :
    Calls Try.prog 33 #[v, .func (.func g) #[] cb] w fun e w' => ∃ a c, e = .returned (.slice a (l.filter fun x => !p x).length c) ∧ w'.ownsRow base 49 4 (.slice a (l.filter fun x => !p x).length c) (l.filter fun x => !p x).length (rowR JobS.cells (l.filter fun x => !p x)) ∧ (∀ k, (Value.slice a (l.filter fun x => !p x).length c).ownBlock = some k → v.ownBlock = some k) ∧ w.grownBy w' v.ownBlock := by
  have HIB : ∀ wx w', I wx → Below wx.heap.size wx w' → I w' := fun wx w' h t => hIg wx w' h (grown_below _ t)
  have HX := Lib.hid (indexJ_any (OwnR.of (base' := 0) JobS.len ho (fun _ _ => Nat.zero_le _)).1 hb g cb eg p (fun wx t x hx => HC wx (HIB w wx hI t) x hx))
  cases hf : l.findIdx? p with
  | none =>
    have hi : idxL p l = -1 := by unfold idxL; rw [hf]
    have hfl : (l.filter fun x => !p x) = l := by
      rw [List.filter_eq_self]
      intro x hx
      rw [List.findIdx?_eq_none_iff.1 hf x hx]
      rfl
    rw [hi] at HX
    rw [hfl]
    obtain ⟨a, c, rfl⟩ := row_slice12 ho
    have HO := Lib.hid ho
    clear ho hI hIg HC HIB hf hi hfl
    go_enter Try.func33, Try.ntmps33
    go_wp2_with fail
    refine HX.out.mono ?_
    rintro e w1 ⟨rfl, b1⟩
    have B1 := Lib.hid b1
    clear b1
    go_wp2
    go_ret
    exact ⟨a, c, rfl, ownsRow_below HO.out B1.out, fun k hk => hk, grown_below _ B1.out⟩
  | some k0 =>
    have hi : idxL p l = (k0 : Int) := by unfold idxL; rw [hf]
    rw [hi] at HX
    have hst := KeptM.start hf
    have hpos : 0 < l.length := by have := hst.lo; have := hst.hi; omega
    obtain ⟨q, cap, rfl, hcap, hcm⟩ : ∃ q cap, v = .slice (some ⟨q, 0, none⟩) l.length cap ∧ l.length ≤ cap ∧ cap ≤ maxLen := by
      rcases ho.2 with ⟨_, h0⟩ | ⟨q, cap, cur, rfl, _, _, h, h2, _⟩
      · omega
      · exact ⟨q, cap, rfl, h, h2⟩
    unfold maxLen at hcm
    have HO := Lib.hid ho
    have HST := Lib.hid hst
    have HI0 := Lib.hid hI
    have HIG : Hid (∀ wx w', I wx → wx.grownBy w' (some q) → I w') := hIg
    have HIB2 := Lib.hid HIB
    have HCC := Lib.hid HC
    have gne : ((k0 : Int) == -1) = false := by rw [beq_eq_false_iff_ne]; omega
    obtain ⟨F, hF⟩ : ∃ F, (l.filter fun x => !p x) = F := ⟨_, rfl⟩
    have HEND : Hid (∀ m i, KeptM p l m i l.length → i = F.length ∧ m.take i = F) := fun m i h => by rw [← hF]; exact h.ends
    have hk0 : k0 < l.length := by have := hst.lo; have := hst.hi; omega
    rw [hF]
    obtain ⟨N, hN⟩ : ∃ N, l.length = N := ⟨_, rfl⟩
    have HN := Lib.hid hN
    rw [hN] at hb hcap hk0 HEND HO HX ⊢
    clear ho hI hIg HC HIB hf hi hst hpos hF hN
    go_enter Try.func33, Try.ntmps33
    go_wp2_with fail
    refine HX.out.mono ?_
    rintro e w1 ⟨rfl, b1⟩
    have H1 : Hid (w1.ownsRow base 49 4 (.slice (some ⟨q, 0, none⟩) N cap) N (rowR JobS.cells l) ∧ I w1 ∧ w.grownBy w1 (some q)) := ⟨ownsRow_below HO.out b1, HIB2.out _ _ HI0.out b1, grown_below _ b1⟩
    clear b1
    go_wp2
    go_loopg [5, 6, 7] N (fun gg s5 s6 _ wr => ∃ (i j : Nat) (m : List JobS), s5 = .int .i64 (i : Int) ∧ s6 = .int .i64 (j : Int) ∧ i < j ∧ j ≤ N ∧ N - j ≤ gg ∧ Hid (KeptM p l m i j ∧ wr.ownsRow base 49 4 (.slice (some ⟨q, 0, none⟩) N cap) N (rowR JobS.cells m) ∧ I wr ∧ w.grownBy wr (some q)))
    case atStart => exact ⟨k0, k0 + 1, l, rfl, by go_num, by omega, by omega, by omega, HST.out, H1.out⟩
    case round =>
      obtain ⟨i, j, m, rfl, rfl, hij, hjN, hgg, HR⟩ := hrel
      by_cases hlt : j < N
      · have hlt2 : (j : Int) < (N : Int) := by omega
        have hiN2 : (i : Int) < (N : Int) := by omega
        have hjl : j < l.length := by rw [HN.out]; exact hlt
        have hmN : m.length = N := HR.out.1.len.trans HN.out
        obtain ⟨hjm, hmj⟩ := HR.out.1.at hjl
        have HSK := Lib.hid (HR.out.1.skip hjl)
        have HKE := Lib.hid (HR.out.1.keep hjl)
        have hx := List.getElem_mem hjl
        obtain ⟨q0, q1, q2, q3, -⟩ := own_cellsJ HR.out.2.1 hjm hmN
        rw [hmj] at q0 q1 q2 q3
        have HMN := Lib.hid hmN
        generalize l[j] = x at *
        clear hmj hjm hjl hmN
        go_upto_region 8 with (fail)
        obtain ⟨w2, hw2⟩ : ∃ w2, wr.alloc (.cells #[.int .i64 x.id, .int .i64 x.step, .bool x.undo, .int .i64 x.tryN] 49) = w2 := ⟨_, rfl⟩
        have b2 : Below wr.heap.size wr w2 := by rw [← hw2]; exact (Below.refl _ wr).alloc (Nat.le_refl _) _
        have hn2 : w2.heap[wr.heap.size]? = some (.cells #[.int .i64 x.id, .int .i64 x.step, .bool x.undo, .int .i64 x.tryN] 49 (0, 0)) := by rw [← hw2]; exact heap_alloc_new _ _
        rw [hw2]
        have d0 := (block_cell hn2 0).trans rfl
        have d1 := (block_cell hn2 1).trans rfl
        have d2 := (block_cell hn2 2).trans rfl
        have d3 := (block_cell hn2 3).trans rfl
        have HB2 := Lib.hid b2
        have HN2 := Lib.hid hn2
        have hcall := HCC.out w2 (HIB2.out _ _ HR.out.2.2.1 b2) x hx
        unfold JobS.val' at hcall
        clear hw2 b2 hn2 hx
        cases hp : p x with
        | true =>
          rw [hp] at hcall
          have HCL := Lib.hid hcall
          have HK2 := Lib.hid (HSK.out hp)
          clear hcall hp
          go_wp2_with fail
          refine HCL.out.mono ?_
          rintro e w3 ⟨rfl, b3⟩
          have HB3 := Lib.hid (HB2.out.trans (b3.mono HB2.out.size))
          clear b3 q0 q1 q2 q3 d0 d1 d2 d3
          go_wp2
          go_roundg (N - (j + 1))
          case measure => omega
          case rel => exact ⟨i, j + 1, m, rfl, by go_num, by omega, by omega, by omega, HK2.out, ownsRow_below HR.out.2.1 HB3.out, HIB2.out _ _ HR.out.2.2.1 HB3.out, grown_trans HR.out.2.2.2 (grown_below _ HB3.out)⟩
        | false =>
          rw [hp] at hcall
          have HCL := Lib.hid hcall
          have HK2 := Lib.hid (HKE.out hp)
          clear hcall hp
          go_wp2_with fail
          refine HCL.out.mono ?_
          rintro e w3 ⟨rfl, b3⟩
          have HB3 := Lib.hid (HB2.out.trans (b3.mono HB2.out.size))
          have hn3 := (b3.block _ (block_lt HN2.out)).trans HN2.out
          clear b3 q0 q1 q2 q3 d0 d1 d2 d3
          have d0 := (block_cell hn3 0).trans rfl
          have d1 := (block_cell hn3 1).trans rfl
          have d2 := (block_cell hn3 2).trans rfl
          have d3 := (block_cell hn3 3).trans rfl
          have O3 := Lib.hid (ownsRow_below HR.out.2.1 HB3.out)
          obtain ⟨q0, q1, q2, q3, hfr⟩ := own_cellsJ O3.out (j := i) (by rw [HMN.out]; omega) HMN.out
          have f0 := hfr (i * 4)
          have f1 := hfr (i * 4 + 1)
          have f2 := hfr (i * 4 + 2)
          have f3 := hfr (i * 4 + 3)
          have HS := Lib.hid (row_set4 O3.out HMN.out (by omega : i < N) x)
          clear hn3 hfr
          go_wp2
          go_roundg (N - (j + 1))
          case measure => omega
          case rel => exact ⟨i + 1, j + 1, m.set i x, by go_num, by go_num, by omega, by omega, by omega, HK2.out, HS.out.1, HIG.out _ _ (HIB2.out _ _ HR.out.2.2.1 HB3.out) HS.out.2, grown_trans (grown_trans HR.out.2.2.2 (grown_below _ HB3.out)) HS.out.2⟩
      · obtain rfl : j = N := by omega
        have hlt2 : ¬ (j : Int) < (j : Int) := by omega
        have hjl : j = l.length := HN.out.symm
        obtain ⟨cur, hq, hsz, hrow, hgr⟩ := row_cut (zs := (Builtin.zeroCells #[.int .i64 0, .int .i64 0, .bool false, .int .i64 0] (j - i)).toList) HR.out.2.1 (Nat.le_of_lt hij) (by rw [Array.length_toList, size_zeroCells]; rfl)
        have hcl : ∀ ty, (Builtin.clear_ #[27] ty #[.slice (some ⟨q, i * 4, none⟩) (j - i) (cap - i)]).run Try.prog wr = .ok (.tuple #[]) (wr.setRow q (cur.toList.take (i * 4) ++ (Builtin.zeroCells #[.int .i64 0, .int .i64 0, .bool false, .int .i64 0] (j - i)).toList ++ cur.toList.drop (i * 4 + (j - i) * 4)).toArray) := fun ty =>
          clear_own wr (e := 49) (z := .agg #[.int .i64 0, .int .i64 0, .bool false, .int .i64 0]) (sz := 4) Try.underlying27 (fun _ => by kernel_rfl) rfl (fun u hu => by simp [Value.cells] at hu; rcases hu with rfl | rfl | rfl | rfl <;> rfl) (by omega) hq hsz
        obtain ⟨W4, hW4⟩ : ∃ W4, wr.setRow q (cur.toList.take (i * 4) ++ (Builtin.zeroCells #[.int .i64 0, .int .i64 0, .bool false, .int .i64 0] (j - i)).toList ++ cur.toList.drop (i * 4 + (j - i) * 4)).toArray = W4 := ⟨_, rfl⟩
        rw [hW4] at hrow hgr
        simp only [hW4] at hcl
        rw [rowR_take JobS.cells 4 JobS.len] at hrow
        have HE : Hid (i = F.length ∧ m.take i = F) := HEND.out m i HR.out.1
        rw [HE.out.2] at hrow
        have HROW := Lib.hid hrow
        have HGR := Lib.hid hgr
        clear hjl hq hsz hrow hgr hW4
        go_wp2
        go_ret
        have h5 := HROW.out
        obtain ⟨e1, -⟩ := HE.out
        subst e1
        exact ⟨_, _, rfl, h5, fun k hk => hk, grown_trans HR.out.2.2.2 HGR.out⟩

set_option maxHeartbeats 4000000 in
set_option maxRecDepth 100000 in
theorem deleteC_any {w : World} {base : Nat} {v : Value} {l : List ClkS} (ho : w.ownsRow base 51 3 v l.length (rowR ClkS.cells l)) (hb : l.length ≤ 1000) (g : FuncId) (cb : Array Value) (eg : ∀ args w, (callFunc g args).run Try.prog w = .ok (.enter g args) w) (p : ClkS → Bool)
    (I : World → Prop) (hI : I w) (hIg : ∀ wx w', I wx → wx.grownBy w' v.ownBlock → I w') (HC : ∀ wx, I wx → ∀ x ∈ l, Calls Try.prog g (#[x.val'] ++ cb) wx fun e w' => e = .returned (.bool (p x)) ∧ Below wx.heap.size wx w') :
    Calls Try.prog 37 #[v, .func (.func g) #[] cb] w fun e w' => ∃ a c, e = .returned (.slice a (l.filter fun x => !p x).length c) ∧ w'.ownsRow base 51 3 (.slice a (l.filter fun x => !p x).length c) (l.filter fun x => !p x).length (rowR ClkS.cells (l.filter fun x => !p x)) ∧ (∀ k, (Value.slice a (l.filter fun x => !p x).length c).ownBlock = some k → v.ownBlock = some k) ∧ w.grownBy w' v.ownBlock := by
  have HIB : ∀ wx w', I wx → Below wx.heap.size wx w' → I w' := fun wx w' h t => hIg wx w' h (grown_below _ t)
  have HX := Lib.hid (indexC_any (OwnR.of (base' := 0) ClkS.len ho (fun _ _ => Nat.zero_le _)).1 hb g cb eg p (fun wx t x hx => HC wx (HIB w wx hI t) x hx))
  cases hf : l.findIdx? p with
  | none =>
    have hi : idxL p l = -1 := by unfold idxL; rw [hf]
    have hfl : (l.filter fun x => !p x) = l := by
      rw [List.filter_eq_self]
      intro x hx
      rw [List.findIdx?_eq_none_iff.1 hf x hx]
      rfl
    rw [hi] at HX
    rw [hfl]
    obtain ⟨a, c, rfl⟩ := row_slice12 ho
    have HO := Lib.hid ho
    clear ho hI hIg HC HIB hf hi hfl
    go_enter Try.func37, Try.ntmps37
    go_wp2_with fail
    refine HX.out.mono ?_
    rintro e w1 ⟨rfl, b1⟩
    have B1 := Lib.hid b1
    clear b1
    go_wp2
    go_ret
    exact ⟨a, c, rfl, ownsRow_below HO.out B1.out, fun k hk => hk, grown_below _ B1.out⟩
  | some k0 =>
    have hi : idxL p l = (k0 : Int) := by unfold idxL; rw [hf]
    rw [hi] at HX
    have hst := KeptM.start hf
    have hpos : 0 < l.length := by have := hst.lo; have := hst.hi; omega
    obtain ⟨q, cap, rfl, hcap, hcm⟩ : ∃ q cap, v = .slice (some ⟨q, 0, none⟩) l.length cap ∧ l.length ≤ cap ∧ cap ≤ maxLen := by
      rcases ho.2 with ⟨_, h0⟩ | ⟨q, cap, cur, rfl, _, _, h, h2, _⟩
      · omega
      · exact ⟨q, cap, rfl, h, h2⟩
    unfold maxLen at hcm
    have HO := Lib.hid ho
    have HST := Lib.hid hst
    have HI0 := Lib.hid hI
    have HIG : Hid (∀ wx w', I wx → wx.grownBy w' (some q) → I w') := hIg
    have HIB2 := Lib.hid HIB
    have HCC := Lib.hid HC
    have gne : ((k0 : Int) == -1) = false := by rw [beq_eq_false_iff_ne]; omega
    obtain ⟨F, hF⟩ : ∃ F, (l.filter fun x => !p x) = F := ⟨_, rfl⟩
    have HEND : Hid (∀ m i, KeptM p l m i l.length → i = F.length ∧ m.take i = F) := fun m i h => by rw [← hF]; exact h.ends
    have hk0 : k0 < l.length := by have := hst.lo; have := hst.hi; omega
    rw [hF]
    obtain ⟨N, hN⟩ : ∃ N, l.length = N := ⟨_, rfl⟩
    have HN := Lib.hid hN
    rw [hN] at hb hcap hk0 HEND HO HX ⊢
    clear ho hI hIg HC HIB hf hi hst hpos hF hN
    go_enter Try.func37, Try.ntmps37
    go_wp2_with fail
    refine HX.out.mono ?_
    rintro e w1 ⟨rfl, b1⟩
    have H1 : Hid (w1.ownsRow base 51 3 (.slice (some ⟨q, 0, none⟩) N cap) N (rowR ClkS.cells l) ∧ I w1 ∧ w.grownBy w1 (some q)) := ⟨ownsRow_below HO.out b1, HIB2.out _ _ HI0.out b1, grown_below _ b1⟩
    clear b1
    go_wp2
    go_loopg [5, 6, 7] N (fun gg s5 s6 _ wr => ∃ (i j : Nat) (m : List ClkS), s5 = .int .i64 (i : Int) ∧ s6 = .int .i64 (j : Int) ∧ i < j ∧ j ≤ N ∧ N - j ≤ gg ∧ Hid (KeptM p l m i j ∧ wr.ownsRow base 51 3 (.slice (some ⟨q, 0, none⟩) N cap) N (rowR ClkS.cells m) ∧ I wr ∧ w.grownBy wr (some q)))
    case atStart => exact ⟨k0, k0 + 1, l, rfl, by go_num, by omega, by omega, by omega, HST.out, H1.out⟩
    case round =>
      obtain ⟨i, j, m, rfl, rfl, hij, hjN, hgg, HR⟩ := hrel
      by_cases hlt : j < N
      · have hlt2 : (j : Int) < (N : Int) := by omega
        have hiN2 : (i : Int) < (N : Int) := by omega
        have hjl : j < l.length := by rw [HN.out]; exact hlt
        have hmN : m.length = N := HR.out.1.len.trans HN.out
        obtain ⟨hjm, hmj⟩ := HR.out.1.at hjl
        have HSK := Lib.hid (HR.out.1.skip hjl)
        have HKE := Lib.hid (HR.out.1.keep hjl)
        have hx := List.getElem_mem hjl
        obtain ⟨q0, q1, q2, -⟩ := own_cellsC HR.out.2.1 hjm hmN
        rw [hmj] at q0 q1 q2
        have HMN := Lib.hid hmN
        generalize l[j] = x at *
        clear hmj hjm hjl hmN
        go_upto_region 8 with (fail)
        obtain ⟨w2, hw2⟩ : ∃ w2, wr.alloc (.cells #[.int .i64 x.id, .int .i64 x.step, .int .i64 x.tick] 51) = w2 := ⟨_, rfl⟩
        have b2 : Below wr.heap.size wr w2 := by rw [← hw2]; exact (Below.refl _ wr).alloc (Nat.le_refl _) _
        have hn2 : w2.heap[wr.heap.size]? = some (.cells #[.int .i64 x.id, .int .i64 x.step, .int .i64 x.tick] 51 (0, 0)) := by rw [← hw2]; exact heap_alloc_new _ _
        rw [hw2]
        have d0 := (block_cell hn2 0).trans rfl
        have d1 := (block_cell hn2 1).trans rfl
        have d2 := (block_cell hn2 2).trans rfl
        skip
        have HB2 := Lib.hid b2
        have HN2 := Lib.hid hn2
        have hcall := HCC.out w2 (HIB2.out _ _ HR.out.2.2.1 b2) x hx
        unfold ClkS.val' at hcall
        clear hw2 b2 hn2 hx
        cases hp : p x with
        | true =>
          rw [hp] at hcall
          have HCL := Lib.hid hcall
          have HK2 := Lib.hid (HSK.out hp)
          clear hcall hp
          go_wp2_with fail
          refine HCL.out.mono ?_
          rintro e w3 ⟨rfl, b3⟩
          have HB3 := Lib.hid (HB2.out.trans (b3.mono HB2.out.size))
          clear b3 q0 q1 q2 d0 d1 d2
          go_wp2
          go_roundg (N - (j + 1))
          case measure => omega
          case rel => exact ⟨i, j + 1, m, rfl, by go_num, by omega, by omega, by omega, HK2.out, ownsRow_below HR.out.2.1 HB3.out, HIB2.out _ _ HR.out.2.2.1 HB3.out, grown_trans HR.out.2.2.2 (grown_below _ HB3.out)⟩
        | false =>
          rw [hp] at hcall
          have HCL := Lib.hid hcall
          have HK2 := Lib.hid (HKE.out hp)
          clear hcall hp
          go_wp2_with fail
          refine HCL.out.mono ?_
          rintro e w3 ⟨rfl, b3⟩
          have HB3 := Lib.hid (HB2.out.trans (b3.mono HB2.out.size))
          have hn3 := (b3.block _ (block_lt HN2.out)).trans HN2.out
          clear b3 q0 q1 q2 d0 d1 d2
          have d0 := (block_cell hn3 0).trans rfl
          have d1 := (block_cell hn3 1).trans rfl
          have d2 := (block_cell hn3 2).trans rfl
          skip
          have O3 := Lib.hid (ownsRow_below HR.out.2.1 HB3.out)
          obtain ⟨q0, q1, q2, hfr⟩ := own_cellsC O3.out (j := i) (by rw [HMN.out]; omega) HMN.out
          have f0 := hfr (i * 3)
          have f1 := hfr (i * 3 + 1)
          have f2 := hfr (i * 3 + 2)
          skip
          have HS := Lib.hid (row_set3 O3.out HMN.out (by omega : i < N) x)
          clear hn3 hfr
          go_wp2
          go_roundg (N - (j + 1))
          case measure => omega
          case rel => exact ⟨i + 1, j + 1, m.set i x, by go_num, by go_num, by omega, by omega, by omega, HK2.out, HS.out.1, HIG.out _ _ (HIB2.out _ _ HR.out.2.2.1 HB3.out) HS.out.2, grown_trans (grown_trans HR.out.2.2.2 (grown_below _ HB3.out)) HS.out.2⟩
      · obtain rfl : j = N := by omega
        have hlt2 : ¬ (j : Int) < (j : Int) := by omega
        have hjl : j = l.length := HN.out.symm
        obtain ⟨cur, hq, hsz, hrow, hgr⟩ := row_cut (zs := (Builtin.zeroCells #[.int .i64 0, .int .i64 0, .int .i64 0] (j - i)).toList) HR.out.2.1 (Nat.le_of_lt hij) (by rw [Array.length_toList, size_zeroCells]; rfl)
        have hcl : ∀ ty, (Builtin.clear_ #[28] ty #[.slice (some ⟨q, i * 3, none⟩) (j - i) (cap - i)]).run Try.prog wr = .ok (.tuple #[]) (wr.setRow q (cur.toList.take (i * 3) ++ (Builtin.zeroCells #[.int .i64 0, .int .i64 0, .int .i64 0] (j - i)).toList ++ cur.toList.drop (i * 3 + (j - i) * 3)).toArray) := fun ty =>
          clear_own wr (e := 51) (z := .agg #[.int .i64 0, .int .i64 0, .int .i64 0]) (sz := 3) Try.underlying28 (fun _ => by kernel_rfl) rfl (fun u hu => by simp [Value.cells] at hu; rcases hu with rfl | rfl | rfl <;> rfl) (by omega) hq hsz
        obtain ⟨W4, hW4⟩ : ∃ W4, wr.setRow q (cur.toList.take (i * 3) ++ (Builtin.zeroCells #[.int .i64 0, .int .i64 0, .int .i64 0] (j - i)).toList ++ cur.toList.drop (i * 3 + (j - i) * 3)).toArray = W4 := ⟨_, rfl⟩
        rw [hW4] at hrow hgr
        simp only [hW4] at hcl
        rw [rowR_take ClkS.cells 3 ClkS.len] at hrow
        have HE : Hid (i = F.length ∧ m.take i = F) := HEND.out m i HR.out.1
        rw [HE.out.2] at hrow
        have HROW := Lib.hid hrow
        have HGR := Lib.hid hgr
        clear hjl hq hsz hrow hgr hW4
        go_wp2
        go_ret
        have h5 := HROW.out
        obtain ⟨e1, -⟩ := HE.out
        subst e1
        exact ⟨_, _, rfl, h5, fun k hk => hk, grown_trans HR.out.2.2.2 HGR.out⟩
end Go.Proofs.Ytlkfpeefjpmmfaa

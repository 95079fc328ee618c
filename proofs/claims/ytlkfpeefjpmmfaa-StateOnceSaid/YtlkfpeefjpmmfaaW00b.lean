/- Rows that are owned, sliced and appended, whatever their elements' size. -/
import Derived.Test.YtlkfpeefjpmmfaaJ07
import Derived.Maps.AppendAt
import Derived.RegionTactic
namespace Go.Proofs.Ytlkfpeefjpmmfaa
open Go.RowKit Go.Maps Go.WideMaps
set_option linter.unusedVariables false

/-- A value whose m elements can be appended: nil, or cells in a row. -/
structure SrcRow (w : World) (x : Value) (m sz : Nat) (news : List Value) : Prop where
  len : news.length = m * sz
  one : ∀ u ∈ news, u.oneCell' = true
  row : (x = .slice none 0 0 ∧ m = 0) ∨ ∃ ad c, x = .slice (some ad) m c ∧ ∀ j u, news[j]? = some u → w.cell? (ad.add j) = some u

abbrev NoF : Nat → Prop := fun _ => False

section
variable {T E : TypeId} {sz : Nat} {w : World} {v : Value} {n : Nat} {xs : List Value}

/-- The first k elements. -/
theorem src_take (ht : Try.prog.underlying T = some (.slice (Try.prog.elem T))) (hs : ∀ w, (sizeOf (Try.prog.elem T)).run Try.prog w = .ok sz w) (h : w.ownsRow 0 E sz v n xs) (h1 : ∀ u ∈ xs, u.oneCell' = true) {k : Nat} (hk : k ≤ n) :
    ∃ x, (∀ wx, (Instr.slice T v none (some (.int .i64 (k : Int))) none).run Try.prog wx = .ok x wx) ∧ ∀ wx, Turn NoF w wx → SrcRow wx x k sz (xs.take (k * sz)) := by
  have hl := h.1
  have hkn : k * sz ≤ n * sz := Nat.mul_le_mul_right _ hk
  rcases h.2 with ⟨rfl, h0⟩ | ⟨g, cap, cur, rfl, _, hg, hle, hcm, _, htake⟩
  · obtain rfl : k = 0 := by omega
    refine ⟨.slice none 0 0, fun wx => ?_, fun wx t => ⟨by simp, by simp, .inl ⟨rfl, rfl⟩⟩⟩
    have := run_slice_h (P := Try.prog) (w := wx) T none 0 0 ht .i64 0 (by omega) (by omega)
    rw [hs] at this
    exact this
  · refine ⟨.slice (some ⟨g, 0, none⟩) k cap, fun wx => ?_, fun wx t => ⟨by rw [List.length_take]; omega, fun u hu => h1 u (List.mem_of_mem_take hu), .inr ⟨⟨g, 0, none⟩, cap, rfl, fun j u hu => ?_⟩⟩⟩
    · have := run_slice_h (P := Try.prog) (w := wx) T (some ⟨g, 0, none⟩) n cap ht .i64 (k : Int) (by omega) (by omega)
      rw [hs] at this
      rw [this]
      show Result.ok (sliced (some ⟨g, 0, none⟩) 0 ((k : Int).toNat) cap sz) wx = _
      unfold sliced
      simp [Addr.add]
    · have hj : j < k * sz := by
        have := (List.getElem?_eq_some_iff.1 hu).1
        rw [List.length_take] at this; omega
      rw [Addr.add_lit, Nat.zero_add]
      rw [List.getElem?_take, if_pos hj] at hu
      have hc : w.cell? ⟨g, j, none⟩ = some u := (h.cellAt j (by omega)).trans hu
      exact (World.cell?_of_block (w := w) (t.block g (World.block_lt_of_cell? _ _ hc) (fun h => h))).trans hc

/-- The elements from the k-th on. -/
theorem src_drop (ht : Try.prog.underlying T = some (.slice (Try.prog.elem T))) (hs : ∀ w, (sizeOf (Try.prog.elem T)).run Try.prog w = .ok sz w) (h : w.ownsRow 0 E sz v n xs) (h1 : ∀ u ∈ xs, u.oneCell' = true) {k : Nat} (hk : k ≤ n) :
    ∃ x, (∀ wx, (Instr.slice T v (some (.int .i64 (k : Int))) none none).run Try.prog wx = .ok x wx) ∧ ∀ wx, Turn NoF w wx → SrcRow wx x (n - k) sz (xs.drop (k * sz)) := by
  have hl := h.1
  have hkn : k * sz ≤ n * sz := Nat.mul_le_mul_right _ hk
  rcases h.2 with ⟨rfl, h0⟩ | ⟨g, cap, cur, rfl, _, hg, hle, hcm, _, htake⟩
  · subst h0
    obtain rfl : k = 0 := by omega
    refine ⟨.slice none 0 0, fun wx => ?_, fun wx t => ⟨by simp at hl; simp [hl], fun u hu => h1 u (List.mem_of_mem_drop hu), .inl ⟨rfl, rfl⟩⟩⟩
    have := run_slice_l (P := Try.prog) (w := wx) T none 0 0 ht .i64 0 (by omega) (by omega)
    rw [hs] at this
    exact this
  · refine ⟨.slice (if cap = k then some ⟨g, 0, none⟩ else some ⟨g, k * sz, none⟩) (n - k) (cap - k), fun wx => ?_, fun wx t => ⟨by rw [List.length_drop, hl, Nat.sub_mul], fun u hu => h1 u (List.mem_of_mem_drop hu), .inr ?_⟩⟩
    · have := run_slice_l (P := Try.prog) (w := wx) T (some ⟨g, 0, none⟩) n cap ht .i64 (k : Int) (by omega) (by omega)
      rw [hs] at this
      rw [this]
      show Result.ok (sliced (some ⟨g, 0, none⟩) ((k : Int).toNat) n cap sz) wx = _
      have e : (if k * sz = 0 then (⟨g, 0, none⟩ : Addr) else ⟨g, k * sz, none⟩) = ⟨g, k * sz, none⟩ := by
        split
        · rename_i h; rw [h]
        · rfl
      unfold sliced
      simp [Addr.add, e]
    · by_cases hc : cap = k
      · rw [if_pos hc]
        refine ⟨_, _, rfl, fun j u hu => ?_⟩
        have := (List.getElem?_eq_some_iff.1 hu).1
        rw [List.length_drop, hl, ← Nat.sub_mul, show n - k = 0 by omega] at this
        omega
      · rw [if_neg hc]
        refine ⟨_, _, rfl, fun j u hu => ?_⟩
        have hj : j < (n - k) * sz := by
          have := (List.getElem?_eq_some_iff.1 hu).1
          rw [List.length_drop, hl, ← Nat.sub_mul] at this; omega
        have hjk : k * sz + j < n * sz := by rw [Nat.sub_mul] at hj; omega
        rw [Addr.add_lit]
        rw [List.getElem?_drop] at hu
        have hc : w.cell? ⟨g, k * sz + j, none⟩ = some u := (h.cellAt _ hjk).trans hu
        exact (World.cell?_of_block (w := w) (t.block g (World.block_lt_of_cell? _ _ hc) (fun h => h))).trans hc

/-- A new block as a source of one element. -/
theorem src_new (w : World) (cs : Array Value) (E : TypeId) (hsz : cs.size = sz) (h1 : ∀ u ∈ cs.toList, u.oneCell' = true) : SrcRow (w.alloc (.cells cs E)) (.slice (some ⟨w.heap.size, 0, none⟩) 1 1) 1 sz cs.toList :=
  ⟨by simp [hsz], h1, .inr ⟨_, _, rfl, fun j u hu => by
    rw [Addr.add_lit, Nat.zero_add, block_cell (heap_alloc_new _ _), ← Array.getElem?_toList]; exact hu⟩⟩
end

/-- append, whatever is appended. -/
theorem run_app (w : World) {T E : TypeId} (ty : TypeId) {i : TypeInfo} {z : Value} {sz bytes : Nat} (ht : Try.prog.underlying T = some (.slice E)) (hi : Try.prog.info? E = some i) (hz : i.zero = some z) (hsize : i.size = sz) (hby : i.bytes = bytes) (hzs : z.cells.size = sz) (hsz : 0 < sz)
    {v : Value} {n : Nat} {xs : List Value} (hown : w.ownsRow 0 E sz v n xs) {x : Value} {m : Nat} {news : List Value} (hx : SrcRow w x m sz news) (hb : (n + m) * bytes ≤ 140737488355328) (h63 : n + m ≤ maxLen) :
    ∃ v' w', (Builtin.append_ #[T, T] ty #[v, x]).run Try.prog w = .ok v' w' ∧ w'.ownsRow 0 E sz v' (n + m) (xs ++ news) ∧ w.grownBy w' v.ownBlock ∧ ∀ k, v'.ownBlock = some k → v.ownBlock = some k ∨ w.heap.size ≤ k := by
  rcases hx.row with ⟨rfl, rfl⟩ | ⟨ad, c, rfl, hc⟩
  · have hr := run_append_owned_none (P := Try.prog) (w := w) 0 T ty E i sz ht hi v n xs hown
    have hn : news = [] := List.eq_nil_of_length_eq_zero (by rw [hx.len]; simp)
    subst hn
    exact ⟨v, w, hr, by simpa using hown, ⟨rfl, rfl, rfl, Nat.le_refl _, fun _ _ _ => rfl⟩, fun k hk => .inl hk⟩
  · obtain ⟨v', w', hr, h2, h3, _, h5⟩ := run_append_own_at (P := Try.prog) w 0 T ty E i z sz bytes ht hi hz hsize hby hzs hsz v n xs hown ad m c news hx.len hc hx.one h63 hb (Nat.zero_le _)
    refine ⟨v', w', hr, h2, h3, fun k hk => ?_⟩
    rcases h5 with h5 | h5
    · exact .inl (h5 ▸ hk)
    · rw [h5] at hk
      injection hk with hk
      exact .inr (by omega)

theorem wpList_app (w : World) {ops : Array Oper} {rest : List Oper} {o : Oper} {a : Act} {Q : Exit → Act → World → Prop} (hgd : o.guard = none) (sl x : Operand) {T E : TypeId}
    (ho : o.op = .call { callee := .builtin .append, args := #[sl, x], argTypes := #[T, T] }) {i : TypeInfo} {z : Value} {sz bytes : Nat} (ht : Try.prog.underlying T = some (.slice E)) (hi : Try.prog.info? E = some i) (hz : i.zero = some z) (hsize : i.size = sz) (hby : i.bytes = bytes) (hzs : z.cells.size = sz) (hsz : 0 < sz)
    {v : Value} {n : Nat} {xs : List Value} (hs : a.eval sl = v) (hown : w.ownsRow 0 E sz v n xs) {xv : Value} {m : Nat} {news : List Value} (hx : a.eval x = xv) (hsrc : SrcRow w xv m sz news) (hb : (n + m) * bytes ≤ 140737488355328) (h63 : n + m ≤ maxLen)
    (hK : ∀ v' w', w'.ownsRow 0 E sz v' (n + m) (xs ++ news) → w.grownBy w' v.ownBlock → (∀ k, v'.ownBlock = some k → v.ownBlock = some k ∨ w.heap.size ≤ k) → wpList Try.prog ops Q rest (a.put o.dst v') w') : wpList Try.prog ops Q (o :: rest) a w := by
  refine wpList_plain hgd fun K hK' => ?_
  obtain ⟨v', w', hr, h1, h2, h3⟩ := run_app w o.type ht hi hz hsize hby hzs hsz hown hsrc hb h63
  unfold Oper.wp execOp
  simp only [ho, resolve, invoke, builtin, Sem.run_bind, Sem.run_pure, Result.andThen_ok, List.map_toArray, List.map_cons, List.map_nil, hs, hx, hr]
  exact hK' _ _ (hK v' w' h1 h2 h3)

/-- .. as a step of a region that draws its order. -/
theorem step_app (w : World) {ops : Array Oper} {o : Oper} {a : Act} {K : Act → World → Prop} {Q : Exit → Act → World → Prop} {Z : Prop} (hgd : o.guard = none) (sl x : Operand) {T E : TypeId}
    (ho : o.op = .call { callee := .builtin .append, args := #[sl, x], argTypes := #[T, T] }) {i : TypeInfo} {z : Value} {sz bytes : Nat} (ht : Try.prog.underlying T = some (.slice E)) (hi : Try.prog.info? E = some i) (hz : i.zero = some z) (hsize : i.size = sz) (hby : i.bytes = bytes) (hzs : z.cells.size = sz) (hsz : 0 < sz)
    {v : Value} {n : Nat} {xs : List Value} (hs : a.eval sl = v) (hown : w.ownsRow 0 E sz v n xs) {xv : Value} {m : Nat} {news : List Value} (hx : a.eval x = xv) (hsrc : SrcRow w xv m sz news) (hb : (n + m) * bytes ≤ 140737488355328) (h63 : n + m ≤ maxLen)
    (hK : ∀ b c w', w'.ownsRow 0 E sz (.slice b (n + m) c) (n + m) (xs ++ news) → w.grownBy w' v.ownBlock → (∀ k, (Value.slice b (n + m) c).ownBlock = some k → v.ownBlock = some k ∨ w.heap.size ≤ k) → K (a.put o.dst (.slice b (n + m) c)) w') :
    if Region.wanted o (yielded ops a.tmps) = true then Oper.wp Try.prog o a w K Q else Z := by
  have hw : Region.wanted o (yielded ops a.tmps) = true := by simp [Region.wanted, hgd]
  rw [if_pos hw]
  obtain ⟨v', w', hr, h1, h2, h3⟩ := run_app w o.type ht hi hz hsize hby hzs hsz hown hsrc hb h63
  obtain ⟨b, c, rfl⟩ : ∃ b c, v' = .slice b (n + m) c := by
    rcases h1.2 with ⟨e1, e2⟩ | ⟨g, cap, cur, e1, _⟩
    · exact ⟨none, 0, by rw [e1, e2]⟩
    · exact ⟨_, _, e1⟩
  unfold Oper.wp execOp
  simp only [ho, resolve, invoke, builtin, Sem.run_bind, Sem.run_pure, Result.andThen_ok, List.map_toArray, List.map_cons, List.map_nil, hs, hx, hr]
  exact hK b c w' h1 h2 h3

/-- An own row as a source of an append. -/
theorem src_all {w : World} {base : Nat} {E : TypeId} {sz : Nat} {v : Value} {n : Nat} {xs : List Value} (h : w.ownsRow base E sz v n xs) (h1 : ∀ u ∈ xs, u.oneCell' = true) : SrcRow w v n sz xs := by
  refine ⟨h.1, h1, ?_⟩
  rcases h.2 with ⟨rfl, h0⟩ | ⟨g, cap, cur, rfl, _⟩
  · exact .inl ⟨rfl, h0⟩
  · refine .inr ⟨⟨g, 0, none⟩, cap, rfl, fun j u hu => ?_⟩
    have hj := (List.getElem?_eq_some_iff.1 hu).1
    rw [Addr.add_lit, Nat.zero_add]
    exact (h.cellAt j (by rw [← h.1]; exact hj)).trans hu
theorem ownsRow_up {w : World} {base base' : Nat} {E : TypeId} {sz : Nat} {v : Value} {n : Nat} {xs : List Value} (h : w.ownsRow base E sz v n xs) (hb : ∀ k, v.ownBlock = some k → base' ≤ k) : w.ownsRow base' E sz v n xs := by
  refine ⟨h.1, ?_⟩
  rcases h.2 with h1 | ⟨g, cap, cur, rfl, h2, h3⟩
  · exact .inl h1
  · exact .inr ⟨g, cap, cur, rfl, hb g rfl, h3⟩
theorem ownsRow_base {w : World} {base base' : Nat} {e : TypeId} {size : Nat} {v : Value} {n : Nat} {xs : List Value} (h : w.ownsRow base e size v n xs) (hb : base' ≤ base) : w.ownsRow base' e size v n xs := by
  refine ⟨h.1, ?_⟩
  rcases h.2 with h1 | ⟨g, cap, cur, h1, h2, h3⟩
  · exact .inl h1
  · exact .inr ⟨g, cap, cur, h1, Nat.le_trans hb h2, h3⟩
end Go.Proofs.Ytlkfpeefjpmmfaa

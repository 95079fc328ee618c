/- Layer 3: contracts of kept, slices.Clone. -/
import Derived.Test.YtlgpkbcefaldoaaDoorW03g
import Derived.WalkSpells
import Derived.WalkLawsBesides
namespace Go.Proofs.YtlgpkbcefaldoaaDoor
open Go.RowKit Go.Maps Go.WideMaps
set_option linter.unusedVariables false

/-- Numbers in a row that lies in no block of F. -/
structure IntsAt (F : Nat → Prop) (w : World) (v : Value) (ks : List Int) : Prop where
  ex : ∃ a cap, v = .slice a ks.length cap ∧ (ks.length = 0 ∨ ∃ b off, a = some ⟨b, off, none⟩ ∧ b < w.heap.size ∧ ¬ F b ∧ ∀ i, i < ks.length → w.cell? ⟨b, off + i, none⟩ = some (.int .i64 (ks.getD i 0)))
  max : ks.length ≤ 9223372036854775807
  lo : ∀ k ∈ ks, -9223372036854775808 ≤ k ∧ k ≤ 9223372036854775807
theorem IntsAt.turn {F G : Nat → Prop} {w w' : World} {v : Value} {ks : List Int} (h : IntsAt F w v ks) (t : Turn G w w') (hG : ∀ k, G k → F k) : IntsAt F w' v ks := by
  obtain ⟨⟨a, cap, hv, hr⟩, h1, h2⟩ := h
  refine ⟨⟨a, cap, hv, ?_⟩, h1, h2⟩
  rcases hr with h0 | ⟨b, off, ha, hlt, hf, hc⟩
  · exact .inl h0
  · exact .inr ⟨b, off, ha, by have := t.size; omega, hf, fun i hi => (World.cell?_of_block (w := w) (t.block b hlt (fun g => hf (hG b g)))).trans (hc i hi)⟩
theorem IntsAt.fit {F G : Nat → Prop} {w : World} {v : Value} {ks : List Int} (h : IntsAt F w v ks) (hG : ∀ k, G k → F k ∨ w.heap.size ≤ k) : IntsAt G w v ks := by
  obtain ⟨⟨a, cap, hv, hr⟩, h1, h2⟩ := h
  refine ⟨⟨a, cap, hv, ?_⟩, h1, h2⟩
  rcases hr with h0 | ⟨b, off, ha, hlt, hf, hc⟩
  · exact .inl h0
  · exact .inr ⟨b, off, ha, hlt, fun g => by rcases hG b g with h | h; exact hf h; omega, hc⟩

set_option maxHeartbeats 400000 in
set_option maxRecDepth 100000 in
theorem kept_any {F : Nat → Prop} {w : World} {v : Value} {ks : List Int} (h : IntsAt F w v ks) (k : Nat) (hk : (k : Int) ≤ 9223372036854775807) :
    Calls Tryd.prog 25 #[v, .int .i64 (k : Int)] w fun e w' => e = .returned (.int .i64 (keptN ks k : Int)) ∧ w = w' := by
  obtain ⟨⟨a, cap, rfl, hr⟩, hm, hlo⟩ := h
  unfold keptN
  by_cases hlt : k < ks.length
  · obtain ⟨b, off, rfl, hb, _, hc0⟩ := hr.resolve_left (by omega)
    have hc := hc0 k hlt
    clear hc0
    have hg : ks.getD k 0 = ks[k] := by simp [List.getD, hlt]
    have hx := hlo ks[k] (List.getElem_mem hlt)
    rw [hg] at hc ⊢
    generalize ks[k] = x at *
    clear hr hlo hg
    go_enter Tryd.func25, Tryd.ntmps25
    go_wp2
    go_ret
    exact ⟨by simp, rfl⟩
  · have hg : ks.getD k 0 = 0 := by simp [List.getD, List.getElem?_eq_none (by omega : ks.length ≤ k)]
    rw [hg]
    clear hg hlo hr
    go_enter Tryd.func25, Tryd.ntmps25
    go_wp2
    go_ret
    exact ⟨rfl, rfl⟩

set_option maxHeartbeats 400000 in
set_option maxRecDepth 100000 in
theorem clone_bytes {w : World} {g cap : Nat} {l : List UInt8} (hl : 0 < l.length) (hz : l.length ≤ 140737488355328) (hc : ∀ j (h : j < l.length), w.cell? ⟨g, j, none⟩ = some (bv l[j])) :
    Calls Tryd.prog 26 #[.slice (some ⟨g, 0, none⟩) l.length cap] w fun e w' => ∃ v, e = .returned v ∧ w'.ownsRow w.heap.size 5 1 v l.length (l.map bv) ∧ Below w.heap.size w w' := by
  obtain ⟨i0, hi, hz0, hz1, hz2⟩ := info_parts infoU8
  have hq := fun (w : World) (a : Option Addr) (n c : Nat) => Lib.run_eql_slice_nil (P := Tryd.prog) w 61 5 a n c 0 0 Tryd.underlying61
  go_enter Tryd.func26, Tryd.ntmps26
  have hown := World.ownsRow_made (base := w.heap.size) (e := 5) (size := 1) w #[] 0 (Nat.le_refl _) (by unfold maxLen; omega) rfl
  have hcell : ∀ j u, (l.map bv)[j]? = some u → (w.alloc (.cells #[] 5)).cell? ((⟨g, 0, none⟩ : Addr).add j) = some u := by
    intro j u hu
    have hj : j < l.length := by
      have := (List.getElem?_eq_some_iff.1 hu).1
      simpa using this
    rw [List.getElem?_map, List.getElem?_eq_getElem hj] at hu
    simp at hu
    subst hu
    have h0 := hc j hj
    rw [Addr.add_lit, Nat.zero_add, World.cell?_of_block (w := w) (Below.heap_alloc _ _ _ (World.block_lt_of_cell? _ _ h0))]
    exact h0
  have HC := Lib.hid hcell
  clear hcell hc
  go_wp2_with (at_builtin; refine wpList_append_own _ rfl (.tmp 5) (.tmp 6) 61 rfl w.heap.size 5 i0 (.int .u8 0) 1 1 Tryd.underlying61 hi hz0 hz1 hz2 rfl (by decide) _ _ _ rfl hown ⟨g, 0, none⟩ l.length cap (l.map bv) rfl ?c0 ?c1 ?c2 ?c3 ?c4 ?c5 ?_)
  case c0 => simp
  case c1 => exact HC.out
  case c2 =>
    intro u hu
    obtain ⟨x, _, rfl⟩ := List.mem_map.1 hu
    rfl
  case c3 => unfold maxLen; omega
  case c4 => omega
  case c5 => simp
  intro v' w1 ho hg _
  have hb : Below w.heap.size w w1 := ((Below.refl _ w).alloc (Nat.le_refl _) _).grown hg (by simp) (fun k hk => by simp [Value.ownBlock] at hk; omega)
  clear hown hg hi
  go_wp2
  go_ret
  exact ⟨v', rfl, by simpa using ho, hb⟩

/-- .. of the first n of them. -/
theorem clone_take {w : World} {g cap : Nat} {l : List UInt8} {n : Nat} (h0 : 0 < n) (hn : n ≤ l.length) (hz : n ≤ 140737488355328) (hc : ∀ j (h : j < (l.take n).length), w.cell? ⟨g, j, none⟩ = some (bv (l.take n)[j])) :
    Calls Tryd.prog 26 #[.slice (some ⟨g, 0, none⟩) n cap] w fun e w' => ∃ a c, e = .returned (.slice a n c) ∧ w'.ownsRow w.heap.size 5 1 (.slice a n c) n ((l.take n).map bv) ∧ Below w.heap.size w w' := by
  have hl : (l.take n).length = n := by rw [List.length_take]; omega
  have := clone_bytes (w := w) (g := g) (cap := cap) (l := l.take n) (by omega) (by omega) hc
  rw [hl] at this
  refine this.mono ?_
  rintro e w' ⟨v, rfl, ho, hb⟩
  obtain ⟨a, c, rfl⟩ := ownsRow_slice ho
  exact ⟨a, c, rfl, ho, hb⟩
end Go.Proofs.YtlgpkbcefaldoaaDoor

/- Layer 3: the contract of Crash. -/
import Derived.Test.YtlgpkbcefaldoaaDoorW03h
import Derived.Deep.QuietTactic
import Derived.BigQuiet
namespace Go.Proofs.YtlgpkbcefaldoaaDoor
open Go.RowKit Go.Maps Go.WideMaps
set_option linter.unusedVariables false

set_option maxHeartbeats 400000 in
set_option maxRecDepth 100000 in
theorem box_crash_nil (v : Value) (w : World) : Calls Tryd.prog 13 #[.pointer none, v] w fun e w' => e = .returned (.pointer none) ∧ w = w' := by
  go_enter Tryd.func13, Tryd.ntmps13
  go_wp2
  go_ret
  exact ⟨rfl, rfl⟩

/-- A file with its bytes is laid into a box. -/
theorem BoxIn.lay {G : Nat → Prop} {w wC w3 : World} {q m : Nat} {es : List (Key × EntM)} {S : Bx} (h : BoxIn w q m es S G) {s : ByteArray} (hs : s.size ≤ maxLen) (hn : nameOK s.data.toList = true) (hf : findK s.data.toList es = none) (hl : es.length < maxLen)
    (hC : Below w.heap.size w wC) {v : Value} {l : List UInt8} {n : Nat} (hln : l.length = n) (ho : wC.ownsRow w.heap.size 5 1 v n (l.map bv)) (h3 : w3 = wC.alloc (.cells #[v, .int .i64 (n : Int)] 63)) :
    ∃ wB, (Instr.mapUpdate 48 (.map (some m)) (.string s) (.pointer (some ⟨wC.heap.size, 0, none⟩))).run Tryd.prog w3 = .ok () wB ∧
      BoxIn wB q m (insK (s.data.toList, ⟨⟨l, n⟩, wC.heap.size, v⟩) es) ⟨insK (s.data.toList, ⟨l, n⟩) S.files, S.fuel, S.down⟩ (Grew G w wB) ∧ Turn (fun k => k = m) w wB := by
  subst hln
  have hCs := hC.size
  have hb3 : Below w.heap.size w w3 := by rw [h3]; exact hC.alloc hCs _
  have hB3 := h.below hb3
  have hnew : w3.heap[wC.heap.size]? = some (.cells #[v, .int .i64 (l.length : Int)] 63 (0, 0)) := by rw [h3]; exact heap_alloc_new _ _
  have ho3 : w3.ownsRow w.heap.size 5 1 v l.length (l.map bv) := by rw [h3]; exact ho.alloc _
  obtain ⟨wB, hrun, hown, hg⟩ := World.ownsMap.update hB3.map (string_keyed Tryd.underlying9) Tryd.underlying48 hl (keyOf_string_mk Tryd.underlying9 hs) (val := .pointer (some ⟨wC.heap.size, 0, none⟩)) (d := .lit (.int .i64 (wC.heap.size : Int))) (ps := []) rfl
  have t : Turn (fun k => k = m) w3 wB := (Turn.refl (fun k => k = m) w3).grown hg (fun k hk => by injection hk with hk; exact .inl hk.symm)
  have hlm := h.lm
  have hts := t.size
  have h3s : w3.heap.size = wC.heap.size + 1 := by rw [h3]; simp
  have hoL := ho.lt
  have hoB : wB.ownsRow 0 5 1 v l.length (l.map bv) := by
    have := t.row ho3 (fun k hk e => by have := (hoL k hk).1; omega)
    refine ⟨this.1, ?_⟩
    rcases this.2 with h1 | ⟨g, cap, cur, h1, h2, h3⟩
    · exact .inl h1
    · exact .inr ⟨g, cap, cur, h1, Nat.zero_le _, h3⟩
  have he : FileAt wB (Grew G w wB) ⟨⟨l, l.length⟩, wC.heap.size, v⟩ :=
    ⟨t.keeps hnew (show wC.heap.size ≠ m by omega), hoB, Nat.le_refl _, .inr ⟨hCs, by show wC.heap.size < _; omega⟩, fun k hk => .inr ⟨(hoL k hk).1, by have := (hoL k hk).2; omega⟩⟩
  refine ⟨wB, hrun, hB3.ins hf hn (e := ⟨⟨l, l.length⟩, wC.heap.size, v⟩) he hown t (fun k hk => .inl hk) (fun x hx e1 => ?_) (fun x hx k hk e1 => ?_), ?_⟩
  · have := (h.mem.each x hx).1.lt
    have e2 : wC.heap.size = x.2.blk := e1
    omega
  · have := (h.mem.each x hx).1.rowLt k e1
    have := (hoL k hk).1
    omega
  · exact (Turn.of_below _ hb3).trans t (fun i hi => .inl hi)

theorem take_cells {w : World} {g cap : Nat} {l : List UInt8} (h : w.ownsRow 0 5 1 (.slice (some ⟨g, 0, none⟩) l.length cap) l.length (l.map bv)) (n : Nat) (hn : n ≤ l.length) : ∀ j (hj : j < (l.take n).length), w.cell? ⟨g, j, none⟩ = some (bv (l.take n)[j]) := by
  intro j hj
  rw [List.length_take] at hj
  rw [h.cellAt j (by omega)]
  simp [List.getElem?_map, List.getElem?_eq_getElem (by omega : j < l.length)]

/-- A box holds what there is, no more. -/
theorem BoxIn.tight {F : Nat → Prop} {w : World} {p m : Nat} {es : List (Key × EntM)} {S : Bx} (h : BoxIn w p m es S F) : BoxIn w p m es S (fun k => F k ∧ k < w.heap.size) :=
  ⟨h.head, h.map, h.files, ⟨fun x hx => ⟨⟨(h.mem.each x hx).1.head, (h.mem.each x hx).1.row, (h.mem.each x hx).1.dur, ⟨(h.mem.each x hx).1.fblk, (h.mem.each x hx).1.lt⟩, fun k hk => ⟨(h.mem.each x hx).1.frow k hk, (h.mem.each x hx).1.rowLt k hk⟩⟩, (h.mem.each x hx).2⟩, h.mem.apart⟩, ⟨h.fp, h.head.lt⟩, ⟨h.fm, h.lm⟩, h.lo, h.hi⟩

end Go.Proofs.YtlgpkbcefaldoaaDoor

/- Layer 3: contracts of New, Fuel, findToChange, Sync, Read, Delete. -/
import Derived.Test.YtlgpkbcefaldoaaDoorW03b
import Derived.Test.YtlgpkbcefaldoaaDoorM02b
namespace Go.Proofs.YtlgpkbcefaldoaaDoor
open Go.RowKit Go.Maps Go.WideMaps
set_option linter.unusedVariables false

theorem MapAt.made (w : World) : MapAt (w.alloc (.map #[] 0)) w.heap.size [] := World.ownsMap_made _ _ _ _

set_option maxHeartbeats 400000 in
set_option maxRecDepth 100000 in
theorem box_new (w : World) :
    Calls Tryd.prog 7 #[] w fun e w' => ∃ p, e = .returned (.pointer (some ⟨p, 0, none⟩)) ∧ w.heap.size ≤ p ∧ BoxAt w' p Bx.new (fun k => w.heap.size ≤ k ∧ k < w'.heap.size) ∧ Below w.heap.size w w' := by
  have hmm := @run_makeMap Tryd.prog
  go_enter Tryd.func7, Tryd.ntmps7
  go_wp2
  go_ret
  have hm := (MapAt.made w).alloc (.cells #[.map (some w.heap.size), .int .i64 (-1), .bool false] 50 (0, 0))
  refine ⟨w.heap.size + 1, by simp, by omega, ⟨w.heap.size, [], ?_, hm, rfl, ⟨by simp, List.Pairwise.nil⟩, by simp, by simp; omega, by decide, by decide⟩, ?_⟩
  · have := heap_alloc_new (w.alloc (.map #[] 0)) (.cells #[.map (some w.heap.size), .int .i64 (-1), .bool false] 50 (0, 0))
    simpa [HeadAt, Bx.new] using this
  · exact ((Below.refl _ _).alloc (Nat.le_refl _) _).alloc (by simp) _

set_option maxHeartbeats 400000 in
set_option maxRecDepth 100000 in
theorem box_fuel {w : World} {p : Nat} {S : Bx} {F : Nat → Prop} (h : BoxAt w p S F) (n : Int) (hn : (Lit.int .i64 n).wf = true) :
    Calls Tryd.prog 9 #[.pointer (some ⟨p, 0, none⟩), .int .i64 n] w fun e w' => e = .returned (.tuple #[]) ∧ BoxAt w' p ⟨S.files, n, S.down⟩ F ∧ Turn F w w' := by
  have hb := bounds_i64 hn
  clear hn
  obtain ⟨m, es, h⟩ := h
  have hh := h.head
  have c1 := hh.c1
  have f1 := hh.free 1
  have H := Lib.hid h
  have HH := Lib.hid hh
  clear h hh
  go_enter Tryd.func9, Tryd.ntmps9
  go_wp2
  go_end0
  have ht := (Turn.refl (fun k => k = p) w).setCell (p := ⟨p, 1, none⟩) (.inl rfl) (.int .i64 n)
  exact ⟨rfl, ⟨m, es, H.out.reHead (HH.out.setFuel n) ht (by omega) (by omega)⟩, ht.mono (fun i hi => by subst hi; exact .inl H.out.fp)⟩

set_option maxHeartbeats 400000 in
set_option maxRecDepth 100000 in
theorem box_fuel_nil (n : Int) (w : World) : Calls Tryd.prog 9 #[.pointer none, .int .i64 n] w fun e w' => e = .returned (.tuple #[]) ∧ w = w' := by
  go_enter Tryd.func9, Tryd.ntmps9
  go_wp2
  go_end0
  exact ⟨rfl, rfl⟩

/-- findToChange's ways. -/
theorem ftc_nil (s : ByteArray) (w : World) :
    Calls Tryd.prog 40 #[.pointer none, .string s] w fun e w' => e = .returned (.tuple #[.pointer none, .int .i64 30]) ∧ w = w' := by
  go_enter Tryd.func40, Tryd.ntmps40
  go_wp2_with fail
  refine (find_nil s _).mono ?_
  rintro e w' ⟨rfl, rfl⟩
  go_wp2
  go_ret2
  exact ⟨rfl, rfl⟩

theorem ftc_down {w : World} {p m : Nat} {es : List (Key × EntM)} {S : Bx} {F : Nat → Prop} (h : BoxIn w p m es S F) (hd : S.down = true) (s : ByteArray) :
    Calls Tryd.prog 40 #[.pointer (some ⟨p, 0, none⟩), .string s] w fun e w' => e = .returned (.tuple #[.pointer none, .int .i64 30]) ∧ w = w' := by
  have hc := find_down h hd s
  clear hd
  go_enter Tryd.func40, Tryd.ntmps40
  go_wp2_with fail
  refine hc.mono ?_
  rintro e w' ⟨rfl, rfl⟩
  go_wp2
  go_ret2
  exact ⟨rfl, rfl⟩

theorem ftc_none {w : World} {p m : Nat} {es : List (Key × EntM)} {S : Bx} {F : Nat → Prop} (h : BoxIn w p m es S F) (hd : S.down = false) (s : ByteArray) (hs : s.size ≤ maxLen) (hf : findK s.data.toList es = none) :
    Calls Tryd.prog 40 #[.pointer (some ⟨p, 0, none⟩), .string s] w fun e w' => e = .returned (.tuple #[.pointer none, .int .i64 31]) ∧ w = w' := by
  have hc := find_none h hd s hs hf
  clear hd hf
  go_enter Tryd.func40, Tryd.ntmps40
  go_wp2_with fail
  refine hc.mono ?_
  rintro e w' ⟨rfl, rfl⟩
  go_wp2
  go_ret2
  exact ⟨rfl, rfl⟩

theorem ftc_no {w : World} {p m : Nat} {es : List (Key × EntM)} {S : Bx} {F : Nat → Prop} (h : BoxIn w p m es S F) (hd : S.down = false) (s : ByteArray) (hs : s.size ≤ maxLen) {e : EntM} (hf : findK s.data.toList es = some e) (h0 : S.fuel = 0) :
    Calls Tryd.prog 40 #[.pointer (some ⟨p, 0, none⟩), .string s] w fun r w' => r = .returned (.tuple #[.pointer none, .int .i64 30]) ∧ BoxIn w' p m es S.fall F ∧ Turn (fun k => k = p) w w' := by
  have hc := find_some h hd s hs hf
  have hb := burn_no h h0
  clear hd hf h0
  go_enter Tryd.func40, Tryd.ntmps40
  go_wp2_with fail
  refine hc.mono ?_
  rintro e w' ⟨rfl, rfl⟩
  go_wp2_with fail
  refine hb.mono ?_
  rintro e w1 ⟨rfl, h1, t1⟩
  go_wp2
  go_ret2
  exact ⟨rfl, h1, t1⟩

theorem ftc_ok {w : World} {p m : Nat} {es : List (Key × EntM)} {S : Bx} {F : Nat → Prop} (h : BoxIn w p m es S F) (hd : S.down = false) (s : ByteArray) (hs : s.size ≤ maxLen) {e : EntM} (hf : findK s.data.toList es = some e) (h0 : S.fuel ≠ 0) :
    Calls Tryd.prog 40 #[.pointer (some ⟨p, 0, none⟩), .string s] w fun r w' => r = .returned (.tuple #[.pointer (some ⟨e.blk, 0, none⟩), .int .i64 0]) ∧ BoxIn w' p m es S.burnt F ∧ Turn (fun k => k = p) w w' := by
  have hc := find_some h hd s hs hf
  have hb := burn_ok h h0
  clear hd hf h0
  go_enter Tryd.func40, Tryd.ntmps40
  go_wp2_with fail
  refine hc.mono ?_
  rintro e w' ⟨rfl, rfl⟩
  go_wp2_with fail
  refine hb.mono ?_
  rintro e w1 ⟨rfl, h1, t1⟩
  go_wp2
  go_ret2
  exact ⟨rfl, h1, t1⟩

set_option maxHeartbeats 400000 in
set_option maxRecDepth 100000 in
theorem box_read {w : World} {p : Nat} {S : Bx} {F : Nat → Prop} (h : BoxAt w p S F) (s : ByteArray) (hs : s.size ≤ maxLen) :
    Calls Tryd.prog 17 #[.pointer (some ⟨p, 0, none⟩), .string s] w fun r w' => r = .returned (.tuple #[tx (S.read s.data.toList).1, .int .i64 (S.read s.data.toList).2]) ∧ w = w' := by
  obtain ⟨m, es, h⟩ := h
  by_cases hd : S.down = true
  · rw [Bx.read_down hd]
    have hc := find_down h hd s
    clear hd
    go_enter Tryd.func17, Tryd.ntmps17
    go_wp2_with fail
    refine hc.mono ?_
    rintro e w' ⟨rfl, rfl⟩
    go_wp2
    go_ret2
    exact ⟨rfl, rfl⟩
  · have hd' : S.down = false := by simpa using hd
    cases hf : findK s.data.toList es with
    | none =>
      rw [Bx.read_none hd' (by rw [h.files, findK_map, hf]; rfl)]
      have hc := find_none h hd' s hs hf
      clear hd hd' hf
      go_enter Tryd.func17, Tryd.ntmps17
      go_wp2_with fail
      refine hc.mono ?_
      rintro e w' ⟨rfl, rfl⟩
      go_wp2
      go_ret2
      exact ⟨rfl, rfl⟩
    | some e =>
      rw [Bx.read_some hd' (f := e.file) (by rw [h.files, findK_map, hf]; rfl)]
      have hc := find_some h hd' s hs hf
      obtain ⟨hfa, hnm⟩ := h.mem.each _ (findK_mem hf)
      have c0 : w.cell? ⟨e.blk, 0, none⟩ = some e.row := by rw [block_cell hfa.head]; rfl
      have hcv := conv_own hfa.row
      have HF := Lib.hid hfa
      clear hd hd' hf hfa hnm
      go_enter Tryd.func17, Tryd.ntmps17
      go_wp2_with fail
      refine hc.mono ?_
      rintro e w' ⟨rfl, rfl⟩
      go_wp2
      go_ret2
      exact ⟨rfl, rfl⟩

end Go.Proofs.YtlgpkbcefaldoaaDoor

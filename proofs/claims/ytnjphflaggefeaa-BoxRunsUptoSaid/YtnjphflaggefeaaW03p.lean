/- Layer 3: the reference's boxes in memory; contracts of its burn, at. -/
import Derived.Test.YtnjphflaggefeaaW03f
import Derived.Test.YtnjphflaggefeaaM03d
import Derived.Test.YtnjphflaggefeaaW03h
import Derived.Deep.QuietTactic
import Derived.BigQuiet
namespace Go.Proofs.Ytnjphflaggefeaa
open Go.RowKit Go.Maps Go.WideMaps
set_option linter.unusedVariables false

/-- Files as the reference's cells. -/
def rcells (l : List (Key × FileS)) : List Value := l.flatMap fun x => [tx x.1, tx (x.2.bytes.take x.2.dur), tx (x.2.bytes.drop x.2.dur)]
theorem rcells_cons (x : Key × FileS) (l : List (Key × FileS)) : rcells (x :: l) = [tx x.1, tx (x.2.bytes.take x.2.dur), tx (x.2.bytes.drop x.2.dur)] ++ rcells l := rfl
theorem rcells_append (a b : List (Key × FileS)) : rcells (a ++ b) = rcells a ++ rcells b := by simp [rcells]
theorem rcells_len (l : List (Key × FileS)) : (rcells l).length = l.length * 3 := by
  induction l with
  | nil => rfl
  | cons x r ih => rw [rcells_cons, List.length_append, ih, List.length_cons]; simp; omega
theorem rcells_at : ∀ (l : List (Key × FileS)) (i : Nat) (h : i < l.length), (rcells l)[i * 3]? = some (tx l[i].1) ∧ (rcells l)[i * 3 + 1]? = some (tx (l[i].2.bytes.take l[i].2.dur)) ∧ (rcells l)[i * 3 + 2]? = some (tx (l[i].2.bytes.drop l[i].2.dur))
  | x :: r, 0, _ => ⟨rfl, rfl, rfl⟩
  | x :: r, i + 1, h => by
    have hi : i < r.length := by simpa using h
    have := rcells_at r i hi
    rw [rcells_cons]
    refine ⟨?_, ?_, ?_⟩
    · rw [List.getElem?_append_right (by simp; omega)]
      show (rcells r)[(i + 1) * 3 - 3]? = some (tx r[i].1)
      rw [show (i + 1) * 3 - 3 = i * 3 by omega]; exact this.1
    · rw [List.getElem?_append_right (by simp; omega)]
      show (rcells r)[(i + 1) * 3 + 1 - 3]? = some (tx (r[i].2.bytes.take r[i].2.dur))
      rw [show (i + 1) * 3 + 1 - 3 = i * 3 + 1 by omega]; exact this.2.1
    · rw [List.getElem?_append_right (by simp; omega)]
      show (rcells r)[(i + 1) * 3 + 2 - 3]? = some (tx (r[i].2.bytes.drop r[i].2.dur))
      rw [show (i + 1) * 3 + 2 - 3 = i * 3 + 2 by omega]; exact this.2.2
theorem rcells_one (l : List (Key × FileS)) : ∀ u ∈ rcells l, u.oneCell' = true := by
  intro u hu
  unfold rcells at hu
  obtain ⟨x, _, hx⟩ := List.mem_flatMap.1 hu
  simp only [List.mem_cons, List.not_mem_nil, or_false] at hx
  rcases hx with rfl | rfl | rfl <;> rfl

structure RefIn (w : World) (p : Nat) (v : Value) (S : Bx) (F : Nat → Prop) : Prop where
  head : w.heap[p]? = some (.cells #[v, .int .i64 (max S.fuel (-1)), .bool S.down] 39 (0, 0))
  row : w.ownsRow 0 68 3 v S.files.length (rcells S.files)
  fp : F p
  frow : ∀ k, v.ownBlock = some k → F k
  ok : FOK S.files
  hi : S.fuel ≤ 9223372036854775807
def RefAt (w : World) (p : Nat) (S : Bx) (F : Nat → Prop) : Prop := ∃ v, RefIn w p v S F

section
variable {F G : Nat → Prop} {w w' : World} {p : Nat} {v : Value} {S : Bx}
theorem RefIn.kept (h : RefIn w p v S F) (t : Turn G w w') (hd : ∀ k, F k → ¬ G k) : RefIn w' p v S F :=
  ⟨t.keeps h.head (hd _ h.fp), t.row h.row (fun k hk => hd _ (h.frow k hk)), h.fp, h.frow, h.ok, h.hi⟩
theorem RefAt.kept (h : RefAt w p S F) (t : Turn G w w') (hd : ∀ k, F k → ¬ G k) : RefAt w' p S F := by
  obtain ⟨v, h⟩ := h
  exact ⟨v, h.kept t hd⟩
theorem RefIn.mono (h : RefIn w p v S F) (hd : ∀ k, F k → G k) : RefIn w p v S G := ⟨h.head, h.row, hd _ h.fp, fun k hk => hd _ (h.frow k hk), h.ok, h.hi⟩
theorem RefAt.mono (h : RefAt w p S F) (hd : ∀ k, F k → G k) : RefAt w p S G := by
  obtain ⟨v, h⟩ := h
  exact ⟨v, h.mono hd⟩
theorem RefIn.below (h : RefIn w p v S F) (t : Below w.heap.size w w') : RefIn w' p v S F := h.kept (Turn.of_below (fun _ => False) t) (fun _ _ h => h)
theorem RefAt.below (h : RefAt w p S F) (t : Below w.heap.size w w') : RefAt w' p S F := h.kept (Turn.of_below (fun _ => False) t) (fun _ _ h => h)
theorem RefIn.rowNe (h : RefIn w p v S F) {k : Nat} (hk : v.ownBlock = some k) : k ≠ p := by
  rintro rfl
  rcases h.row.2 with ⟨h1, _⟩ | ⟨g, cap, cur, h1, _, h2, _⟩
  · rw [h1] at hk; simp [Value.ownBlock] at hk
  · rw [h1] at hk
    simp [Value.ownBlock] at hk
    rw [hk, h.head] at h2
    simp at h2
theorem RefIn.lt (h : RefIn w p v S F) : p < w.heap.size := block_lt h.head
theorem RefIn.c0 (h : RefIn w p v S F) : w.cell? ⟨p, 0, none⟩ = some v := by rw [block_cell h.head]; rfl
theorem RefIn.c1 (h : RefIn w p v S F) : w.cell? ⟨p, 1, none⟩ = some (.int .i64 (max S.fuel (-1))) := by rw [block_cell h.head]; rfl
theorem RefIn.c2 (h : RefIn w p v S F) : w.cell? ⟨p, 2, none⟩ = some (.bool S.down) := by rw [block_cell h.head]; rfl
theorem RefIn.free (h : RefIn w p v S F) (i : Nat) : w.frozen? ⟨p, i, none⟩ = false := block_free h.head i
/-- The cells of a file. -/
theorem RefIn.file (h : RefIn w p v S F) {i : Nat} (hi : i < S.files.length) : ∃ g cap, v = .slice (some ⟨g, 0, none⟩) S.files.length cap ∧ g ≠ p ∧ S.files.length ≤ cap ∧ cap ≤ maxLen ∧ w.cell? ⟨g, i * 3, none⟩ = some (tx S.files[i].1) ∧ w.cell? ⟨g, i * 3 + 1, none⟩ = some (tx (S.files[i].2.bytes.take S.files[i].2.dur)) ∧ w.cell? ⟨g, i * 3 + 2, none⟩ = some (tx (S.files[i].2.bytes.drop S.files[i].2.dur)) ∧ ∀ j, w.frozen? ⟨g, j, none⟩ = false := by
  have hn : ∀ k, v.ownBlock = some k → k ≠ p := fun k hk => h.rowNe hk
  have hr := h.row
  rcases h.row.2 with ⟨_, h0⟩ | ⟨g, cap, cur, rfl, _, hg, hle, hcm, _⟩
  · omega
  · obtain ⟨r0, r1, r2⟩ := rcells_at S.files i hi
    exact ⟨g, cap, rfl, hn g rfl, hle, hcm, (hr.cellAt _ (by omega)).trans r0, (hr.cellAt _ (by omega)).trans r1, (hr.cellAt _ (by omega)).trans r2, fun j => block_free hg j⟩
/-- The box's own block is written. -/
theorem RefIn.reHead (h : RefIn w p v S F) {i : Nat} {u : Value} {f : Int} {d : Bool} (hh : (#[v, .int .i64 (max S.fuel (-1)), .bool S.down] : Array Value).setIfInBounds i u = #[v, .int .i64 (max f (-1)), .bool d]) (hf : f ≤ 9223372036854775807) :
    RefIn (w.setCell ⟨p, i, none⟩ u) p v ⟨S.files, f, d⟩ F ∧ Turn (fun k => k = p) w (w.setCell ⟨p, i, none⟩ u) := by
  have t : Turn (fun k => k = p) w (w.setCell ⟨p, i, none⟩ u) := (Turn.refl (fun k => k = p) w).setCell (p := ⟨p, i, none⟩) (.inl rfl) u
  refine ⟨⟨?_, t.row h.row (fun k hk e => h.rowNe hk e), h.fp, h.frow, h.ok, hf⟩, t⟩
  have := block_set h.head i u
  rw [hh] at this
  exact this
end

set_option maxHeartbeats 400000 in
set_option maxRecDepth 100000 in
theorem rburn_no {w : World} {p : Nat} {v : Value} {S : Bx} {F : Nat → Prop} (h : RefIn w p v S F) (h0 : S.fuel = 0) :
    Calls Try.prog 29 #[.pointer (some ⟨p, 0, none⟩)] w fun e w' => e = .returned (.bool false) ∧ RefIn w' p v S.fall F ∧ Turn (fun k => k = p) w w' := by
  have c1 := h.c1
  rw [h0] at c1
  have c1' : w.cell? ⟨p, 1, none⟩ = some (.int .i64 0) := c1
  have c2 := h.c2
  have f2 := h.free 2
  have H := Lib.hid (h.reHead (i := 2) (u := .bool true) (f := S.fuel) (d := true) rfl h.hi)
  clear h h0 c1
  go_enter Try.func29, Try.ntmps29
  go_wp2
  go_ret
  exact ⟨rfl, H.out.1, H.out.2⟩

set_option maxHeartbeats 400000 in
set_option maxRecDepth 100000 in
theorem rburn_ok {w : World} {p : Nat} {v : Value} {S : Bx} {F : Nat → Prop} (h : RefIn w p v S F) (h0 : S.fuel ≠ 0) :
    Calls Try.prog 29 #[.pointer (some ⟨p, 0, none⟩)] w fun e w' => e = .returned (.bool true) ∧ RefIn w' p v S.burnt F ∧ Turn (fun k => k = p) w w' := by
  have c1 := h.c1
  have f1 := h.free 1
  have hhi := h.hi
  have H := Lib.hid h
  by_cases hp : 0 < S.fuel
  · have e : S.burnt = ⟨S.files, S.fuel - 1, S.down⟩ := by unfold Bx.burnt; rw [if_pos hp]
    have hm : max S.fuel (-1) = S.fuel := by omega
    have hm2 : max (S.fuel - 1) (-1) = S.fuel - 1 := by omega
    have H2 := Lib.hid (h.reHead (i := 1) (u := .int .i64 (S.fuel - 1)) (f := S.fuel - 1) (d := S.down) (by rw [hm2]; rfl) (by omega))
    rw [hm] at c1
    rw [e]
    clear h hm hm2 e h0
    have hz : decide (S.fuel = 0) = false := by simp; omega
    go_enter Try.func29, Try.ntmps29
    go_wp2
    go_ret
    exact ⟨rfl, H2.out.1, H2.out.2⟩
  · have e : S.burnt = S := by unfold Bx.burnt; rw [if_neg (by omega)]
    have hm : max S.fuel (-1) = -1 := by omega
    rw [hm] at c1
    rw [e]
    clear h hm e h0
    go_enter Try.func29, Try.ntmps29
    go_wp2
    go_ret
    exact ⟨rfl, H.out, Turn.refl _ _⟩

theorem strings_compare (a b : ByteArray) (w : World) : Calls Try.prog 39 #[.string a, .string b] w fun e w' => e = .returned (.int .i64 (Lib.compareBytes a.data.toList b.data.toList)) ∧ w = w' :=
  (Sh.strings_Compare a b w).mono fun e w' ⟨h1, h2⟩ => ⟨h1, h2.symm⟩

set_option maxHeartbeats 1000000 in
set_option maxRecDepth 100000 in
theorem rat_any {w : World} {p : Nat} {v : Value} {S : Bx} {F : Nat → Prop} (h : RefIn w p v S F) (s : ByteArray) :
    Calls Try.prog 30 #[.pointer (some ⟨p, 0, none⟩), .string s] w fun e w' => e = .returned (.tuple #[.int .i64 (placeK s.data.toList S.files : Nat), .bool (findK s.data.toList S.files).isSome]) ∧ ∃ n, w' = w.drewN n := by
  have c0 := h.c0
  have hmax : S.files.length ≤ 9223372036854775807 := by
    rcases h.row.2 with ⟨_, h0⟩ | ⟨g, cap, cur, h1, _, _, h2, h3, _⟩
    · omega
    · unfold maxLen at h3; omega
  obtain ⟨va, vc, rfl⟩ := ownsRow_slice h.row
  have H := Lib.hid h
  clear h
  go_enter Try.func30, Try.ntmps30
  go_wp2
  go_loop [6] (fun iv => ∃ k : Nat, k ≤ S.files.length ∧ iv = .int .i64 (k : Int) ∧ Hid (∀ j (h : j < S.files.length), j < k → bytesBefore S.files[j].1 s.data.toList = true)) (fun iv => S.files.length - (intOf iv).toNat)
  case atStart => exact ⟨0, by omega, rfl, fun j _ hj => by omega⟩
  case round =>
    obtain ⟨k, hk, rfl, hbf⟩ := hrel
    by_cases hlt : k < S.files.length
    · obtain ⟨g, cap, hv, hgp, hcap, hcm, q0, q1, q2, hfr⟩ := H.out.file hlt
      injection hv with hv1 hv2 hv3
      subst hv1
      unfold tx at q0
      have hat := find_place (n := s.data.toList) H.out.ok.rising
      clear q1 q2 hfr hv2
      by_cases hb : bytesBefore S.files[k].1 s.data.toList = true
      · have hc := (compare_before S.files[k].1 s.data.toList).2 hb
        have HB2 : Hid (∀ j (h : j < S.files.length), j < k + 1 → bytesBefore S.files[j].1 s.data.toList = true) := fun j hj hjk => by
          by_cases e : j = k
          · subst e; exact hb
          · exact hbf.out j hj (by omega)
        clear hb hat
        go_wp2_with fail
        refine (strings_compare _ _ _).mono ?_
        rintro e w' ⟨rfl, rfl⟩
        have hc2 : Lib.compareBytes (ByteArray.mk S.files[k].1.toArray).data.toList s.data.toList < 0 := hc
        generalize Lib.compareBytes (ByteArray.mk S.files[k].1.toArray).data.toList s.data.toList = c at *
        clear hc
        go_wp2
        go_round
        case rel => exact ⟨k + 1, by omega, by go_num, HB2⟩
        case measure => simp [intOf]; omega
      · have hc : ¬ Lib.compareBytes S.files[k].1 s.data.toList < 0 := fun h => hb ((compare_before _ _).1 h)
        have hpl : placeK s.data.toList S.files = k := place_of hk hbf.out (fun _ => by simpa using hb)
        have hfd : (findK s.data.toList S.files).isSome = (S.files[k].1 == s.data.toList) := by
          rw [hat, dif_pos (by rw [hpl]; exact hlt)]
          simp only [hpl]
          by_cases e : S.files[k].1 = s.data.toList <;> simp [e]
        have HPL := Lib.hid hpl
        have HFD := Lib.hid hfd
        clear hb hat hpl hfd
        go_wp2_with fail
        refine (strings_compare _ _ _).mono ?_
        rintro e w' ⟨rfl, rfl⟩
        have hc2 : 0 ≤ Lib.compareBytes (ByteArray.mk S.files[k].1.toArray).data.toList s.data.toList := by simpa using hc
        generalize Lib.compareBytes (ByteArray.mk S.files[k].1.toArray).data.toList s.data.toList = c at *
        clear hc
        go_wp2
        go_quiet (fail)
        go_wp2
        go_ret2
        exact ⟨by rw [HPL.out, HFD.out, ByteArray.toList_eq]; rfl, _, rfl⟩
    · obtain rfl : k = S.files.length := by omega
      have hpl : placeK s.data.toList S.files = S.files.length := place_of hk hbf.out (fun h => by omega)
      have hfd : (findK s.data.toList S.files).isSome = false := by
        rw [find_place H.out.ok.rising, dif_neg (by omega)]; rfl
      have HPL := Lib.hid hpl
      have HFD := Lib.hid hfd
      clear hpl hfd
      go_wp2
      go_quiet (fail)
      go_wp2
      go_ret2
      exact ⟨by rw [HPL.out, HFD.out]; rfl, _, rfl⟩
end Go.Proofs.Ytnjphflaggefeaa

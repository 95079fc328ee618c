/- Layer 4: a log in memory; contracts of file, number. -/
import Derived.Test.YtlgpkbcefaldoaaDoorM04
import Derived.Test.YtlgpkbcefaldoaaDoorW03
import Derived.Test.YtlgpkbcefaldoaaDoorM02b
import Derived.Test.YtlgpkbcefaldoaaDoorShelf
import Derived.Lib.AppendIntMem
import Derived.Deep.RegionHeld3
namespace Go.Proofs.YtlgpkbcefaldoaaDoor
open Go.RowKit Go.Maps Go.WideMaps
set_option linter.unusedVariables false

/-- The table of powers of ten that Itoa reads. -/
def Tab (w : World) : Prop := Lib.TabIs Tryd.prog w "internal/strconv.uint64pow10" .u64 Lib.pow10Tab
theorem Tab.below {w w' : World} (h : Tab w) (hb : Below w.heap.size w w') : Tab w' := Lib.tabBelow_of_tabIs h w' hb
theorem tab_named : Tryd.prog.globalNamed "internal/strconv.uint64pow10" = some 0 := by kernel_rfl
theorem Tab.turn {F : Nat → Prop} {w w' : World} (h : Tab w) (t : Turn F w w') (hF : ¬ F 0) : Tab w' := by
  unfold Tab Lib.TabIs World.var? at *
  rw [tab_named] at h ⊢
  simp only [Option.bind_some] at h ⊢
  have hlt : 0 < w.heap.size := by
    rcases Nat.lt_or_ge 0 w.heap.size with h' | h'
    · exact h'
    · rw [Array.getElem?_eq_none h'] at h; simp at h
  rw [t.block _ hlt hF]
  exact h
theorem Tab.lt {w : World} (h : Tab w) : 0 < w.heap.size := by
  unfold Tab Lib.TabIs World.var? at h
  rw [tab_named] at h
  simp only [Option.bind_some] at h
  rcases Nat.lt_or_ge 0 w.heap.size with h' | h'
  · exact h'
  · rw [Array.getElem?_eq_none h'] at h; simp at h

theorem itoa_any {w : World} (ht : Tab w) (n : Nat) (hn : n ≤ 99999999) :
    Calls Tryd.prog 38 #[.int .i64 (n : Int)] w fun e w' => e = .returned (.string ⟨(Lib.decDigits n).toArray⟩) ∧ Below w.heap.size w w' :=
  (Sh.strconv_Itoa n (by omega) (by omega) w ht).mono fun e w' ⟨he, k, os, hw⟩ => ⟨by rw [he]; unfold Lib.itoa; rw [if_neg (by omega)]; rfl, by rw [hw]; exact Lib.below_grow _ _ (Nat.le_refl _) k os⟩

/-- A segment's name as a text. -/
def segB (nm : ByteArray) (n : Nat) : ByteArray := ⟨(segName nm.data.toList n).toArray⟩
theorem segB_data (nm : ByteArray) (n : Nat) : (segB nm n).data.toList = segName nm.data.toList n := by unfold segB; simp
theorem segB_size (nm : ByteArray) (n : Nat) : (segB nm n).size = nm.size + 8 := by
  have h : (segB nm n).data.toList.length = nm.data.toList.length + 8 := by rw [segB_data, segName_len]
  rw [Array.length_toList, Array.length_toList] at h
  exact h
theorem segB_make (nm : ByteArray) {n : Nat} (h : n ≤ 99999999) : nm ++ ⟨(Lib.repeatL [48] (8 - (Lib.decDigits n).length)).toArray⟩ ++ ⟨(Lib.decDigits n).toArray⟩ = segB nm n := by
  apply ByteArray.ext
  apply Array.toList_inj.1
  rw [segB_data]
  have := decN_pad 8 n (by omega) (by omega)
  unfold segName
  rw [← this]
  simp

theorem ret_seg {x y : ByteArray} (h : x = y) : Ending.returned (.string x) = .returned (.string y) := by rw [h]
/-- A log's own block. -/
def LogHead (w : World) (q p : Nat) (nm : ByteArray) (c : Nat) (a : Bool) : Prop := w.heap[q]? = some (.cells #[.pointer (some ⟨p, 0, none⟩), .string nm, .int .i64 (c : Int), .bool a] 53 (0, 0))
section
variable {w w' : World} {q p c : Nat} {nm : ByteArray} {a : Bool}
theorem LogHead.lt (h : LogHead w q p nm c a) : q < w.heap.size := block_lt h
theorem LogHead.c0 (h : LogHead w q p nm c a) : w.cell? ⟨q, 0, none⟩ = some (.pointer (some ⟨p, 0, none⟩)) := by rw [block_cell h]; rfl
theorem LogHead.c1 (h : LogHead w q p nm c a) : w.cell? ⟨q, 1, none⟩ = some (.string nm) := by rw [block_cell h]; rfl
theorem LogHead.c2 (h : LogHead w q p nm c a) : w.cell? ⟨q, 2, none⟩ = some (.int .i64 (c : Int)) := by rw [block_cell h]; rfl
theorem LogHead.c3 (h : LogHead w q p nm c a) : w.cell? ⟨q, 3, none⟩ = some (.bool a) := by rw [block_cell h]; rfl
theorem LogHead.free (h : LogHead w q p nm c a) (i : Nat) : w.frozen? ⟨q, i, none⟩ = false := block_free h i
theorem LogHead.setApp (h : LogHead w q p nm c a) (a' : Bool) : LogHead (w.setCell ⟨q, 3, none⟩ (.bool a')) q p nm c a' := block_set h 3 _
theorem LogHead.setCur (h : LogHead w q p nm c a) (c' : Nat) : LogHead (w.setCell ⟨q, 2, none⟩ (.int .i64 (c' : Int))) q p nm c' a := block_set h 2 _
theorem LogHead.below (h : LogHead w q p nm c a) (hb : Below w.heap.size w w') : LogHead w' q p nm c a := (hb.block q h.lt).trans h
theorem LogHead.turn {F : Nat → Prop} (h : LogHead w q p nm c a) (t : Turn F w w') (hq : ¬ F q) : LogHead w' q p nm c a := t.keeps h hq
end

set_option maxHeartbeats 400000 in
set_option maxRecDepth 100000 in
theorem file_any {w : World} {q p c : Nat} {nm : ByteArray} {a : Bool} (h : LogHead w q p nm c a) (hn8 : nm.size ≤ 8) (ht : Tab w) (n : Nat) (hn : n ≤ 99999999) :
    Calls Tryd.prog 22 #[.pointer (some ⟨q, 0, none⟩), .int .i64 (n : Int)] w fun e w' => e = .returned (.string (segB nm n)) ∧ Below w.heap.size w w' := by
  have hit := itoa_any ht n hn
  have hmk := Lib.hid (segB_make nm hn)
  have hdl : (Lib.decDigits n).length ≤ 8 := by rw [Lib.decDigits_length]; exact nDigits_le 8 n (by omega) (by omega)
  obtain ⟨x, hx⟩ : ∃ x : ByteArray, x = ⟨(Lib.decDigits n).toArray⟩ := ⟨_, rfl⟩
  have hxs : x.size = (Lib.decDigits n).length := by
    rw [hx]
    show (Lib.decDigits n).toArray.size = _
    simp
  rw [← hx] at hit hmk
  have hx8 : x.size ≤ 8 := by omega
  rw [← hxs] at hmk
  have H := Lib.hid h
  have hrp : ∀ w : World, Calls Tryd.prog 39 #[.string ⟨#[48]⟩, .int .i64 ((8 - x.size : Nat) : Int)] w fun e w' => e = .returned (.string ⟨(Lib.repeatL [48] (8 - x.size)).toArray⟩) ∧ Below w.heap.size w w' := fun w => Sh.strings_Repeat ⟨#[48]⟩ (8 - x.size) w (by omega) (by show 1 * _ ≤ _; omega)
  obtain ⟨y, hy⟩ : ∃ y : ByteArray, y = ⟨(Lib.repeatL [48] (8 - x.size)).toArray⟩ := ⟨_, rfl⟩
  have hy8 : y.size ≤ 8 := by
    rw [hy]
    show (Lib.repeatL [48] (8 - x.size)).toArray.size ≤ 8
    rw [List.size_toArray, Lib.repeatL_length]
    simp
  rw [← hy] at hmk
  have hz1 : ¬ 9223372036854775807 < nm.size + y.size := by omega
  have hz2 : ¬ 9223372036854775807 < nm.size + y.size + x.size := by omega
  have HR := Lib.hid hrp
  rw [← hy] at HR
  clear hx hxs hdl h ht hy hrp
  go_enter Tryd.func22, Tryd.ntmps22
  go_wp2_with fail
  refine hit.mono ?_
  rintro e w1 ⟨rfl, b1⟩
  have h1 := H.out.below b1
  have c1 := h1.c1
  have hq1 := h1.lt
  have hcast : IntKind.i64.wrap (8 - (x.size : Int)) = ((8 - x.size : Nat) : Int) := by
    rw [IntWalk.i64_in _ (by omega)]; omega
  have B1 := Lib.hid b1
  clear hit b1 h1
  go_wp2
  go_region_held3 (fun w' => w'.cell? ⟨q, 1, none⟩ = some (.string nm)) (first | exact c1 | exact c1a)
    ((go_at_call 39; refine (HR.out _).mono ?_; rintro e w2 ⟨rfl, b2⟩; have c1a := (World.cell?_of_block (w := w1) (b2.block q hq1)).trans c1; have B2 := Lib.hid b2))
  all_goals go_wp2
  all_goals go_ret
  all_goals exact ⟨ret_seg hmk.out, below_next B1.out (Nat.le_refl _) (below_undrew B2.out)⟩


/-- What number reads. -/
theorem segNum_no {nm f : Key} (h : Lib.hasPrefix f nm = false) : segNum nm f = 0 := by unfold segNum; rw [if_neg (by simp [h])]
theorem segNum_short {nm f : Key} (h : ¬ (f.drop nm.length).length = 8) : segNum nm f = 0 := by unfold segNum; rw [if_neg (fun hc => h hc.2.1)]
theorem segNum_bad {nm f : Key} {k : Nat} (h : k < (f.drop nm.length).length) (hc : isDec (f.drop nm.length)[k] = false) : segNum nm f = 0 := by
  unfold segNum
  rw [if_neg]
  rintro ⟨_, _, h3⟩
  rw [List.all_eq_true] at h3
  have := h3 _ (List.getElem_mem h)
  rw [hc] at this; cases this
theorem segNum_good {nm f : Key} (h1 : Lib.hasPrefix f nm = true) (h2 : (f.drop nm.length).length = 8) (h3 : (f.drop nm.length).all isDec = true) : segNum nm f = valN (f.drop nm.length) := by unfold segNum; rw [if_pos ⟨h1, h2, h3⟩]

/-- The digits' value so far. -/
structure NumRel (d : ByteArray) (k n : Nat) : Prop where
  all : (d.data.toList.take k).all isDec = true
  val : valN (d.data.toList.take k) = n
  small : n < 10 ^ k
theorem NumRel.start (d : ByteArray) : NumRel d 0 0 := ⟨rfl, rfl, by decide⟩
theorem NumRel.next {d : ByteArray} {k n : Nat} (h : NumRel d k n) (hk : k < d.size) (h1 : 48 ≤ d[k].toNat) (h2 : d[k].toNat ≤ 57) : NumRel d (k + 1) (10 * n + (d[k].toNat - 48)) := by
  have hk' : k < d.data.toList.length := by simpa using hk
  have e : d.data.toList.take (k + 1) = d.data.toList.take k ++ [d[k]] := by rw [List.take_succ_eq_append_getElem hk']; rfl
  refine ⟨?_, ?_, ?_⟩
  · rw [e, List.all_append, h.all]
    simp only [List.all_cons, List.all_nil, Bool.and_true, Bool.true_and, isDec]
    exact decide_eq_true ⟨h1, h2⟩
  · rw [e, valN_snoc, h.val]
  · have := h.small
    rw [Nat.pow_succ]; omega
theorem NumRel.end {d : ByteArray} {n : Nat} (h : NumRel d d.size n) : d.data.toList.all isDec = true ∧ valN d.data.toList = n := by
  have e : d.data.toList.take d.size = d.data.toList := by rw [List.take_of_length_le]; simp
  have h1 := h.all
  have h2 := h.val
  rw [e] at h1 h2
  exact ⟨h1, h2⟩
theorem pow_le8 {k n : Nat} (hk : k ≤ 8) (h : n < 10 ^ k) : n < 100000000 := Nat.lt_of_lt_of_le h (Nat.le_trans (Nat.pow_le_pow_right (by omega) hk) (by decide))
theorem ret_int3 {a b : Int} (h : a = b) : Value.int .i64 a = .int .i64 b := by rw [h]
theorem ret_num {a b : Int} (h : a = b) : Ending.returned (.int .i64 a) = .returned (.int .i64 b) := by rw [h]

set_option maxHeartbeats 1000000 in
set_option maxRecDepth 100000 in
theorem number_any {w : World} {q p c : Nat} {nm : ByteArray} {a : Bool} (h : LogHead w q p nm c a) (f : ByteArray) (hf : f.size ≤ maxLen) :
    Calls Tryd.prog 34 #[.pointer (some ⟨q, 0, none⟩), .string f] w fun e w' => e = .returned (.int .i64 (segNum nm.data.toList f.data.toList : Nat)) ∧ w = w' := by
  unfold maxLen at hf
  have c1 := h.c1
  have hcut := Sh.strings_CutPrefix f nm w
  cases hp : Lib.hasPrefix f.data.toList nm.data.toList with
  | false =>
    have hz := Lib.hid (segNum_no hp)
    rw [hp] at hcut
    unfold Lib.trimPrefix at hcut
    rw [hp, if_neg (by simp)] at hcut
    clear hp h
    go_enter Tryd.func34, Tryd.ntmps34
    go_wp2_with fail
    refine hcut.mono ?_
    rintro e w' ⟨rfl, rfl⟩
    go_wp2
    go_ret
    exact ⟨by rw [hz.out]; rfl, rfl⟩
  | true =>
    rw [hp] at hcut
    unfold Lib.trimPrefix at hcut
    rw [hp, if_pos rfl] at hcut
    obtain ⟨d, hd⟩ : ∃ d : ByteArray, d = ⟨(f.data.toList.drop nm.data.toList.length).toArray⟩ := ⟨_, rfl⟩
    have hdl : d.data.toList = f.data.toList.drop nm.data.toList.length := by rw [hd]
    have hds : d.size = (f.data.toList.drop nm.data.toList.length).length := by rw [← hdl]; simp
    rw [← hd] at hcut
    have hdf : d.size ≤ f.size := by
      rw [hds, List.length_drop]
      simp
    by_cases h8 : d.size = 8
    · have HP := Lib.hid hp
      have HDL := Lib.hid hdl
      have HDS := Lib.hid hds
      have HM := Lib.hid h8
      have h8' : (8 : Int) = (d.size : Int) := by omega
      have hle : d.size ≤ 8 := by omega
      have hne : ((d.size : Int) != 8) = false := by simp [h8]
      have h88 : 8 ≤ d.size := by omega
      clear hp hdl hds hd h h8 h8'
      go_enter Tryd.func34, Tryd.ntmps34
      go_wp2_with fail
      refine hcut.mono ?_
      rintro e w' ⟨rfl, rfl⟩
      go_wp2
      go_loop [7, 28] (fun nv iv => ∃ (k n : Nat), k ≤ d.size ∧ iv = .int .i64 (k : Int) ∧ nv = .int .i64 (n : Int) ∧ n < 100000000 ∧ Hid (NumRel d k n)) (fun _ iv => d.size - (intOf iv).toNat)
      case atStart => exact ⟨0, 0, by omega, rfl, rfl, by omega, NumRel.start d⟩
      case round =>
        obtain ⟨k, n, hk, rfl, rfl, hn, HN⟩ := hrel
        by_cases hlt : k < d.size
        · by_cases hdig : 48 ≤ d[k].toNat ∧ d[k].toNat ≤ 57
          · obtain ⟨g1, g2⟩ := hdig
            have hN := HN.out.next hlt g1 g2
            have hb2 := pow_le8 (by omega) hN.small
            have HN2 := Lib.hid hN
            have hb1 : 10 * n + (d[k].toNat - 48) < 100000000 := hb2
            clear hN hb2
            go_wp2
            go_round
            case rel => exact ⟨k + 1, 10 * n + (d[k].toNat - 48), by omega, by go_num, ret_int3 (by omega), hb1, HN2⟩
            case measure => simp [intOf]; omega
          · have hbad : isDec d[k] = false := by unfold isDec; exact decide_eq_false hdig
            have hz : Hid (segNum nm.data.toList f.data.toList = 0) := segNum_bad (k := k) (by rw [← HDS.out]; exact hlt) (by
              have := HDL.out
              rw [← hbad]
              congr 1
              have e : (f.data.toList.drop nm.data.toList.length)[k]? = d.data.toList[k]? := by rw [this]
              rw [List.getElem?_eq_getElem (by rw [← HDS.out]; exact hlt), List.getElem?_eq_getElem (by simpa using hlt)] at e
              injection e with e)
            by_cases hlow : d[k].toNat < 48
            · clear hdig hbad
              go_wp2
              go_ret
              exact ⟨by rw [hz.out]; rfl, rfl⟩
            · have hhigh : 57 < d[k].toNat := by omega
              clear hdig hbad
              go_wp2
              go_ret
              exact ⟨by rw [hz.out]; rfl, rfl⟩
        · obtain rfl : k = d.size := by omega
          obtain ⟨e1, e2⟩ := HN.out.end
          have hz : Hid (segNum nm.data.toList f.data.toList = n) := by
            show _ = _
            rw [segNum_good HP.out (by rw [← HDS.out]; exact HM.out) (by rw [← HDL.out]; exact e1), ← HDL.out]; exact e2
          clear e1 e2
          go_wp2
          go_ret
          exact ⟨ret_num (by rw [hz.out]), rfl⟩
    · have hz := Lib.hid (segNum_short (by rw [← hds]; exact h8))
      have hne : ((d.size : Int) != 8) = true := by simp; omega
      clear hp h hdl hds hd h8
      go_enter Tryd.func34, Tryd.ntmps34
      go_wp2_with fail
      refine hcut.mono ?_
      rintro e w' ⟨rfl, rfl⟩
      go_wp2
      go_ret
      exact ⟨by rw [hz.out]; rfl, rfl⟩
end Go.Proofs.YtlgpkbcefaldoaaDoor

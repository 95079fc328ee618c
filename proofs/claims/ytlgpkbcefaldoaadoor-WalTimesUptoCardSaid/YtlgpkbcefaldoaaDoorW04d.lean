/- Layer 4: contract of Open. -/
import Derived.Test.YtlgpkbcefaldoaaDoorW04c
namespace Go.Proofs.YtlgpkbcefaldoaaDoor
open Go.RowKit Go.Maps Go.WideMaps Go.Shelf
set_option linter.unusedVariables false

theorem scanL_count : ∀ (n : Nat) (l : List UInt8), l.length ≤ n → (scanL l).1.length ≤ l.length := by
  intro n
  induction n with
  | zero =>
    intro l h
    rw [scanL]
    split
    · rename_i h0
      have := (nextL_less h0).1
      omega
    · simp
  | succ n ih =>
    intro l h
    rw [scanL]
    split
    · rename_i h0
      have h1 := (nextL_less h0).1
      have := ih _ (by omega : (nextL l).2.2.length ≤ n)
      simp only [List.length_cons]
      omega
    · simp
theorem recsL_weigh (nm : Key) (l : List (Key × FileS)) : (recsL nm l).length ≤ weigh l := by
  induction l with
  | nil => simp [recsL]
  | cons x r ih =>
    have h1 := scanL_count _ x.2.bytes (Nat.le_refl _)
    unfold recsL weigh at *
    rw [List.flatMap_cons, List.length_append, List.map_cons, List.sum_cons]
    split
    · simp only [List.length_nil]; omega
    · omega
theorem findK_rising {α : Type} {l : List (Key × α)} (h : Rising l) {x : Key × α} (hx : x ∈ l) : findK x.1 l = some x.2 := by
  induction l with
  | nil => cases hx
  | cons y r ih =>
    obtain ⟨h1, h2⟩ := List.pairwise_cons.1 h
    rw [findK_cons]
    rcases List.mem_cons.1 hx with rfl | hx
    · rw [if_pos rfl]
    · have hb := h1 x hx
      rw [if_neg (fun e => by rw [e, bytes_irrefl] at hb; cases hb)]
      exact ih h2 hx
theorem segsOf_mem {nm : Key} {l : List (Key × FileS)} {n : Nat} (h : n ∈ segsOf nm l) : ∃ x ∈ l, segNum nm x.1 = n ∧ n ≠ 0 := by
  unfold segsOf at h
  obtain ⟨h1, h2⟩ := List.mem_filter.1 h
  obtain ⟨x, hx, rfl⟩ := List.mem_map.1 h1
  exact ⟨x, hx, rfl, by have := of_decide_eq_true h2; omega⟩
theorem readL_recs {nm : Key} {l : List (Key × FileS)} (h : Rising l) : readL nm l (segsOf nm l) = recsL nm l := by
  rw [recsL_segP, segsOf_segP]
  unfold readL
  rw [List.flatMap_map]
  have key : ∀ m : List (Key × FileS), (∀ x ∈ m, x ∈ l ∧ segNum nm x.1 ≠ 0) → m.flatMap (fun x => recN nm l (segNum nm x.1)) = m.flatMap fun x => (scanL x.2.bytes).1 := by
    intro m hm
    induction m with
    | nil => rfl
    | cons y r ih =>
      obtain ⟨h1, h2⟩ := hm y (by simp)
      rw [List.flatMap_cons, List.flatMap_cons, ih (fun x hx => hm x (List.mem_cons_of_mem _ hx))]
      congr 1
      unfold recN
      rw [← (segNum_inv h2).1, findK_rising h h1]
  refine key _ (fun x hx => ?_)
  unfold segP at hx
  obtain ⟨h1, h2⟩ := List.mem_filter.1 hx
  exact ⟨h1, by simpa using h2⟩
theorem BoxAt.rising {w : World} {p : Nat} {S : Bx} {F : Nat → Prop} (h : BoxAt w p S F) : Rising S.files := by
  obtain ⟨m, es, h⟩ := h
  rw [h.files]
  exact (rising_map EntM.file).2 h.rising
theorem curOf_nil {nm : Key} {l : List (Key × FileS)} (h : (segsOf nm l).length = 0) : curOf nm l = 1 := by
  unfold curOf
  rw [List.eq_nil_of_length_eq_zero h]; rfl
theorem curOf_last {nm : Key} {l : List (Key × FileS)} (h : 0 < (segsOf nm l).length) : curOf nm l = (segsOf nm l)[(segsOf nm l).length - 1] + 1 := by
  unfold curOf
  have hne : segsOf nm l ≠ [] := by intro e; rw [e] at h; simp at h
  rw [List.getLastD_eq_getLast?, List.getLast?_eq_some_getLast hne, Option.getD_some, List.getLast_eq_getElem]

/-- What Open answers where the log can be opened. -/
def OpenEnd (w : World) (p : Nat) (nm : ByteArray) (S : Bx) (F : Nat → Prop) (e : Ending) (w' : World) : Prop :=
  ∃ q v, e = .returned (.tuple #[.pointer (some ⟨q, 0, none⟩), v, .int .i64 0]) ∧ w.heap.size ≤ q ∧ LogIn w' q p nm (curOf nm.data.toList S.files) false S F ∧
    w'.ownsRow w.heap.size 9 1 v (recsL nm.data.toList S.files).length ((recsL nm.data.toList S.files).map tx) ∧ Below w.heap.size w w'

theorem log_made {w w1 : World} {p : Nat} {nm : ByteArray} {S : Bx} {F : Nat → Prop} (h : BoxAt w p S F) (hF : ∀ k, F k → k < w.heap.size) (ht : Tab w) (hg : ¬ F 0) (h1 : 1 ≤ nm.size) (h8 : nm.size ≤ 8) (hb : Below w.heap.size w w1) :
    LogIn (w1.alloc (.cells #[.pointer (some ⟨p, 0, none⟩), .string nm, .int .i64 1, .bool false] 53)) w1.heap.size p nm 1 false S F := by
  have hs := hb.size
  have hl := ht.lt
  have hb2 := hb.alloc hs (.cells #[.pointer (some ⟨p, 0, none⟩), .string nm, .int .i64 1, .bool false] 53)
  exact ⟨h.below hb2, heap_alloc_new _ _, fun hk => by have := hF _ hk; omega, h1, h8, by omega, by omega, ht.below hb2, hg, by omega⟩

set_option maxHeartbeats 1000000 in
set_option maxRecDepth 100000 in
theorem open_ok {w : World} {p : Nat} {nm : ByteArray} {S : Bx} {F : Nat → Prop} (h : BoxAt w p S F) (hF : ∀ k, F k → k < w.heap.size) (ht : Tab w) (hg : ¬ F 0) (h1 : 1 ≤ nm.size) (h8 : nm.size ≤ 8) (hd : S.down = false)
    (hc : curOf nm.data.toList S.files ≤ 99999999) (hz : ∀ x ∈ S.files, segNum nm.data.toList x.1 ≠ 0 → x.2.bytes.length ≤ 16777216) (hw : weigh S.files ≤ 8796093022208) :
    Calls Tryd.prog 8 #[.pointer (some ⟨p, 0, none⟩), .string nm] w fun e w' => OpenEnd w p nm S F e w' := by
  have hlw := len_weigh S.files
  have hlen : S.files.length ≤ 8796093022208 := by omega
  have hsl := segsOf_le nm.data.toList S.files
  have hrc := recsL_weigh nm.data.toList S.files
  have HRR := Lib.hid (readL_recs (nm := nm.data.toList) h.rising)
  have HNS : Hid (∀ n ∈ segsOf nm.data.toList S.files, n ≤ 99999999 ∧ ∃ f, findK (segName nm.data.toList n) S.files = some f ∧ f.bytes.length ≤ 16777216) := by
    intro n hn
    obtain ⟨x, hx, rfl, h0⟩ := segsOf_mem hn
    have hs := segNum_small nm.data.toList x.1
    exact ⟨by omega, x.2, by rw [← (segNum_inv h0).1]; exact findK_rising h.rising hx, hz x hx h0⟩
  have hne : nm.toList.isEmpty = false := by
    rw [ByteArray.toList_eq]
    cases hh : nm.data.toList with
    | nil =>
      have := congrArg List.length hh
      rw [Array.length_toList] at this
      have h' : nm.size = 0 := this
      omega
    | cons a b => rfl
  have hne2 : ¬ nm.toList = [] := by intro hh; rw [hh] at hne; cases hne
  have hM := fun (w1 : World) (hb : Below w.heap.size w w1) => log_made (nm := nm) h hF ht hg h1 h8 hb
  have HM := Lib.hid hM
  have HD := Lib.hid hd
  clear hM h ht hz hlw hd
  go_enter Tryd.func8, Tryd.ntmps8
  go_wp2_with fail
  refine (strings_clone nm _ (by omega)).mono ?_
  rintro e w1 ⟨rfl, b1⟩
  have hL := HM.out w1 b1
  have hb2 := b1.alloc b1.size (.cells #[.pointer (some ⟨p, 0, none⟩), .string nm, .int .i64 1, .bool false] 53)
  have hqs := b1.size
  go_wp2_with fail
  generalize w1.alloc (.cells #[.pointer (some ⟨p, 0, none⟩), .string nm, .int .i64 1, .bool false] 53) = w2 at *
  generalize w1.heap.size = q at *
  have B2 := Lib.hid hb2
  have HL := Lib.hid hL
  clear hb2 hL b1 HM
  refine (segments_any HL.out hlen).mono ?_
  rintro e w3 ⟨v, rfl, ho, hb3⟩
  rw [if_neg (by rw [HD.out]; simp)] at ho
  have hd0 : (if S.down then (30 : Int) else 0) = 0 := by rw [HD.out]; rfl
  rw [hd0]
  have B3 := Lib.hid (below_next B2.out (Nat.le_refl _) hb3)
  have HL3 := Lib.hid (HL.out.below hb3)
  have HOW := Lib.hid ho
  obtain ⟨ra, rc, rfl, hR⟩ := row1_own ho (by omega)
  have hc2 := HL3.out.head.c2
  have hf2 := HL3.out.head.free 2
  have hnum : Hid (curOf nm.data.toList S.files = curOf nm.data.toList S.files) := rfl
  by_cases hn0 : (segsOf nm.data.toList S.files).length = 0
  · have hcur := curOf_nil hn0
    have H0 := Lib.hid hn0
    have HC := Lib.hid hcur
    have hz0 : ((segsOf nm.data.toList S.files).length : Int) ≤ 0 := by omega
    clear ho hb3 hR hd0 hn0 hcur
    go_wp2_with fail
    refine (read_any HL3.out HD.out HOW.out HNS.out (by rw [HRR.out]; omega) (by omega)).mono ?_
    rintro e w4 ⟨rv, rfl, hro, hb4⟩
    rw [HRR.out] at hro
    have B4 := Lib.hid (below_next B3.out (Nat.le_refl _) hb4)
    have HL4 := Lib.hid (HL3.out.below hb4)
    have HRO := Lib.hid (ownsRow_base_a hro B3.out.size)
    clear hro hb4 hc2 hf2
    go_wp2
    refine bodyPost_ret (v := .tuple #[.pointer (some ⟨q, 0, none⟩), rv, .int .i64 0]) (by simp [results, Tryd.results8, go_sem]) rfl ?_
    refine ⟨q, rv, rfl, hqs, ?_, HRO.out, B4.out⟩
    rw [HC.out]
    exact HL4.out
  · have hcur := curOf_last (nm := nm.data.toList) (l := S.files) (by omega)
    obtain ⟨b, off, rfl, hbl, hcell⟩ := hR.at (k := (segsOf nm.data.toList S.files).length - 1) (by omega)
    rw [ints_getD (by omega)] at hcell
    have hq2 := HL.out.head.lt
    have hmem := segsOf_le nm.data.toList S.files
    have HG := Lib.hid (show (segsOf nm.data.toList S.files).length = (segsOf nm.data.toList S.files).length from rfl)
    obtain ⟨n, hn⟩ : ∃ n, n = (segsOf nm.data.toList S.files)[(segsOf nm.data.toList S.files).length - 1] := ⟨_, rfl⟩
    rw [← hn] at hcur hcell
    have hn8 : n + 1 ≤ 99999999 := by omega
    have HC := Lib.hid hcur
    clear hcur hn hc
    obtain ⟨j, hj⟩ : ∃ j, (segsOf nm.data.toList S.files).length = j + 1 := ⟨(segsOf nm.data.toList S.files).length - 1, by omega⟩
    have HJ := Lib.hid hj
    have hjl : j + 1 ≤ 8796093022208 := by omega
    rw [hj] at hcell HOW
    simp only [hj]
    rw [Nat.add_sub_cancel] at hcell
    have hbl2 : b ≠ q := by
      intro e
      subst e
      have h1 := HL3.out.head
      have h2 : ∃ cur, w3.heap[b]? = some (.cells cur 3 (0, 0)) := by
        rcases HOW.out.2 with ⟨h1, _⟩ | ⟨g, cap, cur, h1, _, h2, _⟩
        · simp at h1
        · injection h1 with h1
          injection h1 with h1
          injection h1 with h1
          subst h1
          exact ⟨cur, h2⟩
      obtain ⟨cur, h2⟩ := h2
      unfold LogHead at h1
      rw [h2] at h1
      simp at h1
    clear ho hb3 hR hd0 hn0 hj hmem hsl hnum
    have HLN : Hid (LogIn (w3.setCell ⟨q, 2, none⟩ (.int .i64 ((n : Int) + 1))) q p nm (n + 1) false S F) := HL3.out.setTo (d := n + 1) (by omega) hn8
    have HB4 := Lib.hid (B3.out.setCell (p := ⟨q, 2, none⟩) hqs (.int .i64 ((n : Int) + 1)))
    have HO4 := Lib.hid (turn_q (w := w3) (q := q) (v := .int .i64 ((n : Int) + 1)) (i := 2) |>.row HOW.out (fun k hk e => by have := (HOW.out.lt k hk).1; have e' : k = q := e; omega))
    have hj0 : (0 : Int) ≤ (j : Int) := by omega
    have hj1 : (j : Int) < (j : Int) + 1 := by omega
    have hrc2 : (recsL nm.data.toList S.files).length ≤ 8796093022208 := by omega
    clear hrc hw hF
    have hwj : IntKind.i64.wrap ((j : Int) + 1 - 1) = (j : Int) := by rw [IntWalk.i64_in _ (by omega)]; omega
    go_upto_region 11 with (fail)
    clear hcell hc2 hf2
    generalize w3.setCell ⟨q, 2, none⟩ (.int .i64 ((n : Int) + 1)) = w4 at *
    have hc4 := HLN.out.head.c2
    have hle : ¬ (99999999 : Int) < (n : Int) + 1 := by omega
    go_wp2_with fail
    have hro := read_any HLN.out HD.out (ns := segsOf nm.data.toList S.files) (by rw [HJ.out]; exact HO4.out) HNS.out (by rw [HRR.out]; omega) (by rw [HJ.out]; omega)
    refine hro.mono ?_
    rintro e w5 ⟨rv, rfl, hro, hb5⟩
    rw [HRR.out] at hro
    have B5 := Lib.hid (below_next HB4.out (Nat.le_refl _) hb5)
    have HL5 := Lib.hid (HLN.out.below hb5)
    have HRO := Lib.hid (ownsRow_base_a hro HB4.out.size)
    clear hro hb5 hc4
    go_wp2
    refine bodyPost_ret (v := .tuple #[.pointer (some ⟨q, 0, none⟩), rv, .int .i64 0]) (by simp [results, Tryd.results8, go_sem]) rfl ?_
    refine ⟨q, rv, rfl, hqs, ?_, HRO.out, B5.out⟩
    rw [HC.out]
    exact HL5.out
set_option maxHeartbeats 1000000 in
set_option maxRecDepth 100000 in
theorem open_long {w : World} {p : Nat} {nm : ByteArray} {S : Bx} {F : Nat → Prop} (h : BoxAt w p S F) (hF : ∀ k, F k → k < w.heap.size) (ht : Tab w) (hg : ¬ F 0) (h1 : 1 ≤ nm.size) (h8 : nm.size ≤ 8) (hd : S.down = false)
    (hc : ¬ curOf nm.data.toList S.files ≤ 99999999) (hw : weigh S.files ≤ 8796093022208) :
    Calls Tryd.prog 8 #[.pointer (some ⟨p, 0, none⟩), .string nm] w fun e w' => e = .returned (.tuple #[.pointer none, .slice none 0 0, .int .i64 2]) ∧ Below w.heap.size w w' := by
  have hlw := len_weigh S.files
  have hlen : S.files.length ≤ 8796093022208 := by omega
  have hsl := segsOf_le nm.data.toList S.files
  have hne : nm.toList.isEmpty = false := by
    rw [ByteArray.toList_eq]
    cases hh : nm.data.toList with
    | nil =>
      have := congrArg List.length hh
      rw [Array.length_toList] at this
      have h' : nm.size = 0 := this
      omega
    | cons a b => rfl
  have hne2 : ¬ nm.toList = [] := by intro hh; rw [hh] at hne; cases hne
  have hM := fun (w1 : World) (hb : Below w.heap.size w w1) => log_made (nm := nm) h hF ht hg h1 h8 hb
  have HM := Lib.hid hM
  have HD := Lib.hid hd
  clear hM h ht hlw hd
  go_enter Tryd.func8, Tryd.ntmps8
  go_wp2_with fail
  refine (strings_clone nm _ (by omega)).mono ?_
  rintro e w1 ⟨rfl, b1⟩
  have hL := HM.out w1 b1
  have hb2 := b1.alloc b1.size (.cells #[.pointer (some ⟨p, 0, none⟩), .string nm, .int .i64 1, .bool false] 53)
  have hqs := b1.size
  go_wp2_with fail
  generalize w1.alloc (.cells #[.pointer (some ⟨p, 0, none⟩), .string nm, .int .i64 1, .bool false] 53) = w2 at *
  generalize w1.heap.size = q at *
  have B2 := Lib.hid hb2
  have HL := Lib.hid hL
  clear hb2 hL b1 HM
  refine (segments_any HL.out hlen).mono ?_
  rintro e w3 ⟨v, rfl, ho, hb3⟩
  rw [if_neg (by rw [HD.out]; simp)] at ho
  have hd0 : (if S.down then (30 : Int) else 0) = 0 := by rw [HD.out]; rfl
  rw [hd0]
  have B3 := Lib.hid (below_next B2.out (Nat.le_refl _) hb3)
  have HL3 := Lib.hid (HL.out.below hb3)
  have HOW := Lib.hid ho
  obtain ⟨ra, rc, rfl, hR⟩ := row1_own ho (by omega)
  have hc2 := HL3.out.head.c2
  have hf2 := HL3.out.head.free 2
  have hnum : Hid (curOf nm.data.toList S.files = curOf nm.data.toList S.files) := rfl
  by_cases hn0 : (segsOf nm.data.toList S.files).length = 0
  · exact absurd (curOf_nil hn0) (by omega)
  · have hcur := curOf_last (nm := nm.data.toList) (l := S.files) (by omega)
    obtain ⟨b, off, rfl, hbl, hcell⟩ := hR.at (k := (segsOf nm.data.toList S.files).length - 1) (by omega)
    rw [ints_getD (by omega)] at hcell
    have hq2 := HL.out.head.lt
    have hmem := segsOf_le nm.data.toList S.files
    have HG := Lib.hid (show (segsOf nm.data.toList S.files).length = (segsOf nm.data.toList S.files).length from rfl)
    obtain ⟨n, hn⟩ : ∃ n, n = (segsOf nm.data.toList S.files)[(segsOf nm.data.toList S.files).length - 1] := ⟨_, rfl⟩
    rw [← hn] at hcur hcell
    have hn9 : n < 100000000 := by
      have hm := List.getElem_mem (l := segsOf nm.data.toList S.files) (n := (segsOf nm.data.toList S.files).length - 1) (by omega)
      rw [← hn] at hm
      obtain ⟨x, _, hx, _⟩ := segsOf_mem hm
      rw [← hx]; exact segNum_small _ _
    have hn8 : ¬ n + 1 ≤ 99999999 := by omega
    have HC := Lib.hid hcur
    clear hcur hn hc
    obtain ⟨j, hj⟩ : ∃ j, (segsOf nm.data.toList S.files).length = j + 1 := ⟨(segsOf nm.data.toList S.files).length - 1, by omega⟩
    have HJ := Lib.hid hj
    have hjl : j + 1 ≤ 8796093022208 := by omega
    rw [hj] at hcell HOW
    simp only [hj]
    rw [Nat.add_sub_cancel] at hcell
    have hbl2 : b ≠ q := by
      intro e
      subst e
      have h1 := HL3.out.head
      have h2 : ∃ cur, w3.heap[b]? = some (.cells cur 3 (0, 0)) := by
        rcases HOW.out.2 with ⟨h1, _⟩ | ⟨g, cap, cur, h1, _, h2, _⟩
        · simp at h1
        · injection h1 with h1
          injection h1 with h1
          injection h1 with h1
          subst h1
          exact ⟨cur, h2⟩
      obtain ⟨cur, h2⟩ := h2
      unfold LogHead at h1
      rw [h2] at h1
      simp at h1
    clear ho hb3 hR hd0 hn0 hj hmem hsl hnum
    have HB4 := Lib.hid (B3.out.setCell (p := ⟨q, 2, none⟩) hqs (.int .i64 ((n : Int) + 1)))
    have hj0 : (0 : Int) ≤ (j : Int) := by omega
    have hj1 : (j : Int) < (j : Int) + 1 := by omega
    clear hw hF
    have hwj : IntKind.i64.wrap ((j : Int) + 1 - 1) = (j : Int) := by rw [IntWalk.i64_in _ (by omega)]; omega
    go_upto_region 11 with (fail)
    clear hcell
    have hle : (99999999 : Int) < (n : Int) + 1 := by omega
    go_wp2
    go_ret3
    exact ⟨rfl, HB4.out⟩
end Go.Proofs.YtlgpkbcefaldoaaDoor

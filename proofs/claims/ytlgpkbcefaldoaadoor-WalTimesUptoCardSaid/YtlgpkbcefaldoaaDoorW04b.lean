/- Layer 4: a log and its box in memory; contract of segments. -/
import Derived.Test.YtlgpkbcefaldoaaDoorW04
import Derived.Test.YtlgpkbcefaldoaaDoorW03k
import Derived.Laws.AppendOwn
namespace Go.Proofs.YtlgpkbcefaldoaaDoor
open Go.RowKit Go.Maps Go.WideMaps Go.Shelf
set_option linter.unusedVariables false

/-- A log and its box: the box in F, the log's own block apart from it; the table of powers of ten lies in neither. -/
structure LogIn (w : World) (q p : Nat) (nm : ByteArray) (c : Nat) (a : Bool) (S : Bx) (F : Nat → Prop) : Prop where
  box : BoxAt w p S F
  head : LogHead w q p nm c a
  nq : ¬ F q
  nm1 : 1 ≤ nm.size
  nm8 : nm.size ≤ 8
  cur1 : 1 ≤ c
  cur8 : c ≤ 99999999
  tab : Tab w
  ng : ¬ F 0
  qg : q ≠ 0

section
variable {w w' : World} {q p c : Nat} {nm : ByteArray} {a : Bool} {S S' : Bx} {F G : Nat → Prop}
theorem LogIn.below (h : LogIn w q p nm c a S F) (hb : Below w.heap.size w w') : LogIn w' q p nm c a S F :=
  ⟨h.box.below hb, h.head.below hb, h.nq, h.nm1, h.nm8, h.cur1, h.cur8, h.tab.below hb, h.ng, h.qg⟩
theorem LogIn.drew (h : LogIn w q p nm c a S F) : LogIn w.drew q p nm c a S F := h.below (below_drew w)
/-- The box has changed. -/
theorem LogIn.onBox (h : LogIn w q p nm c a S F) (hb : BoxAt w' p S' (Grew F w w')) (t : Turn F w w') : LogIn w' q p nm c a S' (Grew F w w') :=
  ⟨hb, h.head.turn t h.nq, fun hq => by rcases hq with hq | hq; exact h.nq hq; have := h.head.lt; omega, h.nm1, h.nm8, h.cur1, h.cur8, h.tab.turn t h.ng,
   fun hg => by rcases hg with hg | hg; exact h.ng hg; have := h.tab.lt; omega, h.qg⟩
theorem turn_q {v : Value} {i : Nat} : Turn (fun k => k = q) w (w.setCell ⟨q, i, none⟩ v) := (Turn.refl (fun k => k = q) w).setCell (p := ⟨q, i, none⟩) (.inl rfl) v
theorem LogIn.setApp (h : LogIn w q p nm c a S F) (a' : Bool) : LogIn (w.setCell ⟨q, 3, none⟩ (.bool a')) q p nm c a' S F :=
  ⟨h.box.kept turn_q (fun k hk e => by have e' : k = q := e; subst e'; exact h.nq hk), h.head.setApp a', h.nq, h.nm1, h.nm8, h.cur1, h.cur8, h.tab.turn turn_q (fun e => h.qg e.symm), h.ng, h.qg⟩
theorem LogIn.setTo (h : LogIn w q p nm c a S F) {d : Nat} (h1 : 1 ≤ d) (h8 : d ≤ 99999999) : LogIn (w.setCell ⟨q, 2, none⟩ (.int .i64 (d : Int))) q p nm d a S F :=
  ⟨h.box.kept turn_q (fun k hk e => by have e' : k = q := e; subst e'; exact h.nq hk), h.head.setCur d, h.nq, h.nm1, h.nm8, h1, h8, h.tab.turn turn_q (fun e => h.qg e.symm), h.ng, h.qg⟩
theorem LogIn.setCur (h : LogIn w q p nm c a S F) (hc : c < 99999999) : LogIn (w.setCell ⟨q, 2, none⟩ (.int .i64 ((c + 1 : Nat) : Int))) q p nm (c + 1) a S F :=
  ⟨h.box.kept turn_q (fun k hk e => by have e' : k = q := e; subst e'; exact h.nq hk), h.head.setCur (c + 1), h.nq, h.nm1, h.nm8, by omega, by omega, h.tab.turn turn_q (fun e => h.qg e.symm), h.ng, h.qg⟩
end

theorem infoInt : (Tryd.prog.info? 3).map (fun i => (i.zero, i.size, i.bytes)) = some (some (.int .i64 0), 1, 8) := by kernel_rfl

def ints (ns : List Nat) : List Value := ns.map fun (n : Nat) => .int .i64 (n : Int)
theorem ints_len (ns : List Nat) : (ints ns).length = ns.length := by simp [ints]
theorem segsOf_snoc (nm : Key) (l : List (Key × FileS)) (x : Key × FileS) : segsOf nm (l ++ [x]) = if segNum nm x.1 = 0 then segsOf nm l else segsOf nm l ++ [segNum nm x.1] := by
  unfold segsOf
  rw [List.map_append, List.filter_append, List.map_cons, List.map_nil, List.filter_cons, List.filter_nil]
  by_cases h : segNum nm x.1 = 0
  · rw [if_neg (by simp [h]), if_pos h, List.append_nil]
  · rw [if_pos (by simp; omega), if_neg h]
theorem segsOf_take {nm : Key} {l : List (Key × FileS)} {k : Nat} (h : k < l.length) : segsOf nm (l.take (k + 1)) = if segNum nm l[k].1 = 0 then segsOf nm (l.take k) else segsOf nm (l.take k) ++ [segNum nm l[k].1] := by
  rw [List.take_succ_eq_append_getElem h, segsOf_snoc]
theorem segsOf_le (nm : Key) (l : List (Key × FileS)) : (segsOf nm l).length ≤ l.length := by
  unfold segsOf
  exact Nat.le_trans (List.length_filter_le _ _) (by simp)
theorem segNum_small (nm f : Key) : segNum nm f < 100000000 := by
  by_cases h : segNum nm f = 0
  · omega
  · exact (segNum_inv h).2

/-- A row of the call's own as a row that is read. -/
theorem row1_own {w : World} {base n : Nat} {e : TypeId} {v : Value} {xs : List Value} (h : w.ownsRow base e 1 v n xs) (hn : n ≤ 9223372036854775807) :
    ∃ a cap, v = .slice a n cap ∧ Row1 w a n (fun i => xs.getD i undef) := by
  have hl : xs.length = n := by have := h.1; omega
  rcases h.2 with ⟨rfl, h0⟩ | ⟨g, cap, cur, rfl, _, hg, hle, _, hcs, htake⟩
  · subst h0
    exact ⟨none, 0, rfl, by omega, .inl rfl⟩
  · have hc : ∀ i, i < n → w.cell? ⟨g, 0 + i, none⟩ = some (xs.getD i undef) := by
      intro i hi
      rw [cell_of_row w g _ cur _ _ hg]
      have : (cur.toList.take (n * 1))[0 + i]? = xs[0 + i]? := by rw [htake]
      rw [List.getElem?_take, if_pos (by omega)] at this
      rw [← Array.getElem?_toList, this]
      simp [List.getD, hl, hi]
    refine ⟨some ⟨g, 0, none⟩, cap, rfl, hn, ?_⟩
    by_cases h0 : n = 0
    · exact .inl h0
    · exact .inr ⟨g, 0, rfl, World.block_lt_of_cell? w ⟨g, 0 + 0, none⟩ (hc 0 (by omega)), hc⟩
theorem BoxAt.name {w : World} {p : Nat} {S : Bx} {F : Nat → Prop} (h : BoxAt w p S F) {x : Key × FileS} (hx : x ∈ S.files) : x.1.length ≤ 32 := by
  obtain ⟨m, es, h⟩ := h
  rw [h.files] at hx
  obtain ⟨y, hy, rfl⟩ := List.mem_map.1 hx
  have := (h.mem.each y hy).2
  unfold nameOK at this
  exact (of_decide_eq_true this).2
theorem tx_getD {l : List (Key × FileS)} {k : Nat} (h : k < l.length) : (l.map fun x => tx x.1).getD k undef = .string ⟨l[k].1.toArray⟩ := by
  simp [List.getD, h, tx]
theorem one_int (n : Int) : ∀ u ∈ [Value.int .i64 n], u.oneCell' = true := by intro u hu; simp at hu; subst hu; rfl

/-- How segments ends. -/
def SegsEnd (w : World) (nm : Key) (S : Bx) (e : Ending) (w' : World) : Prop :=
  ∃ v, e = .returned (.tuple #[v, .int .i64 (if S.down then 30 else 0)]) ∧ w'.ownsRow w.heap.size 3 1 v (if S.down then [] else segsOf nm S.files).length (ints (if S.down then [] else segsOf nm S.files)) ∧ Below w.heap.size w w'

set_option maxHeartbeats 1000000 in
set_option maxRecDepth 100000 in
theorem segments_any {w : World} {q p c : Nat} {nm : ByteArray} {a : Bool} {S : Bx} {F : Nat → Prop} (h : LogIn w q p nm c a S F) (hl : S.files.length ≤ 8796093022208) :
    Calls Tryd.prog 19 #[.pointer (some ⟨q, 0, none⟩)] w fun e w' => SegsEnd w nm.data.toList S e w' := by
  have c0 := h.head.c0
  have hls := box_list h.box hl
  have H := Lib.hid h
  obtain ⟨i0, hi, hz0, hz1, hz2⟩ := info_parts infoInt
  clear h
  by_cases hd : S.down = true
  · rw [if_pos hd, if_pos hd, if_pos hd] at hls
    have hE : ∀ (v : Value) (w' : World), w'.ownsRow w.heap.size 3 1 v 0 [] → Below w.heap.size w w' → SegsEnd w nm.data.toList S (.returned (.tuple #[v, .int .i64 30])) w' := fun v w' h1 h2 => ⟨v, by rw [if_pos hd], by rw [if_pos hd]; exact h1, h2⟩
    have HE := Lib.hid hE
    clear hE hd
    go_enter Tryd.func19, Tryd.ntmps19
    go_wp2_with fail
    refine hls.mono ?_
    rintro e w1 ⟨v, rfl, ho, hb⟩
    have HB := Lib.hid hb
    clear ho hb
    go_wp2
    go_ret2
    exact HE.out _ _ (World.ownsRow_nil _ _ _ _) HB.out
  · rw [if_neg hd, if_neg hd, if_neg hd] at hls
    have hE : ∀ (v : Value) (w' : World), w'.ownsRow w.heap.size 3 1 v (segsOf nm.data.toList S.files).length (ints (segsOf nm.data.toList S.files)) → Below w.heap.size w w' → SegsEnd w nm.data.toList S (.returned (.tuple #[v, .int .i64 0])) w' := fun v w' h1 h2 => ⟨v, by rw [if_neg hd], by rw [if_neg hd]; exact h1, h2⟩
    have HE := Lib.hid hE
    clear hE hd
    generalize hfs : S.files = fs at *
    go_enter Tryd.func19, Tryd.ntmps19
    go_wp2_with fail
    refine hls.mono ?_
    rintro e w1 ⟨v, rfl, ho, hb⟩
    obtain ⟨va, vc, rfl⟩ := ownsRow_slice ho
    have HO := Lib.hid ho
    have HB := Lib.hid hb
    obtain ⟨ra, rc, hrv, R1⟩ := row1_own ho (by omega)
    injection hrv with e1 e2 e3
    subst e1; subst e3
    have HR := Lib.hid R1
    have HN := Lib.hid (show ∀ x ∈ fs, x.1.length ≤ 32 from fun x hx => H.out.box.name (by rw [hfs]; exact hx))
    clear hls ho hb R1 hfs
    go_wp2
    go_loopw [6, 23] (fun nv iv wr => ∃ (k : Nat), k ≤ fs.length ∧ iv = .int .i64 (k : Int) ∧ Hid (wr.ownsRow w1.heap.size 3 1 nv (segsOf nm.data.toList (fs.take k)).length (ints (segsOf nm.data.toList (fs.take k)))) ∧ Hid (Below w1.heap.size w1 wr)) (fun _ iv _ => fs.length - (intOf iv).toNat)
    case atStart => exact ⟨0, by omega, rfl, World.ownsRow_nil _ _ _ _, Below.refl _ _⟩
    case round =>
      obtain ⟨k, hk, rfl, HV, HB3⟩ := hrel
      have HB2 := Lib.hid (below_next HB.out (Nat.le_refl _) HB3.out)
      by_cases hlt : k < fs.length
      · obtain ⟨b, off, rfl, hcell⟩ := HR.out.in HB3.out hlt
        have hH := H.out.below HB2.out
        rw [tx_getD hlt] at hcell
        have hs32 : fs[k].1.length ≤ 32 := HN.out _ (List.getElem_mem hlt)
        have hst := segsOf_take (nm := nm.data.toList) hlt
        have hsl := segsOf_le nm.data.toList (fs.take k)
        rw [List.length_take] at hsl
        have hsl2 : (segsOf nm.data.toList (fs.take k)).length ≤ 8796093022208 := by omega
        have hnum := number_any hH.head ⟨fs[k].1.toArray⟩ (by show fs[k].1.toArray.size ≤ maxLen; rw [List.size_toArray]; unfold maxLen; omega)
        generalize hg : (⟨fs[k].1.toArray⟩ : ByteArray) = f at *
        have hgl : fs[k].1 = f.data.toList := by rw [← hg]
        rw [hgl] at hst
        have hns := segNum_small nm.data.toList f.data.toList
        have HST := Lib.hid hst
        clear hst hsl hs32 hg hgl hH
        generalize segNum nm.data.toList f.data.toList = num at *
        by_cases h0 : num = 0
        · subst h0
          have HV2 : Hid (wr.ownsRow w1.heap.size 3 1 u6 (segsOf nm.data.toList (fs.take (k + 1))).length (ints (segsOf nm.data.toList (fs.take (k + 1))))) := by rw [HST.out, if_pos rfl]; exact HV
          go_wp2_with fail
          refine hnum.mono ?_
          rintro e w2 ⟨rfl, rfl⟩
          go_wp2
          go_roundw
          case rel => exact ⟨k + 1, by omega, by go_num, HV2, HB3⟩
          case measure => simp [intOf]; omega
        · have h1 : (1 : Int) ≤ (num : Int) := by omega
          go_wp2_with fail
          refine hnum.mono ?_
          rintro e w2 ⟨rfl, rfl⟩
          have hown1 := HV.out
          go_wp2_with (first
            | (at_builtin; refine wpList_append_own _ rfl (.tmp 32) (.tmp 34) 23 rfl w1.heap.size 3 i0 (.int .i64 0) 1 8 Tryd.underlying23 hi hz0 hz1 hz2 rfl (by decide) _ _ _ rfl (hown1.alloc _) ⟨wr.heap.size, 0, none⟩ 1 1 [.int .i64 (num : Int)] rfl rfl ?c1 ?c2 ?c3 ?c4 ?c5 ?_))
          case c1 => exact new_one _ _ _
          case c2 => exact one_int _
          case c3 => unfold maxLen; omega
          case c4 => omega
          case c5 => have := HB3.out.size; simp; omega
          intro v' w3 hown' hgrow _
          have HV2 : Hid (w3.ownsRow w1.heap.size 3 1 v' (segsOf nm.data.toList (fs.take (k + 1))).length (ints (segsOf nm.data.toList (fs.take (k + 1))))) := by
            show World.ownsRow _ _ _ _ _ _ _
            rw [HST.out, if_neg h0, List.length_append]
            unfold ints
            rw [List.map_append]
            exact hown'
          have HB4 : Hid (Below w1.heap.size w1 w3) := (HB3.out.alloc HB3.out.size _).grown hgrow (by have := HB3.out.size; simp; omega) (fun k hk => (hown1.lt k hk).1)
          clear hown1 hown' hgrow hnum
          go_wp2
          go_roundw
          case rel => exact ⟨k + 1, by omega, by go_num, HV2, HB4⟩
          case measure => simp [intOf]; omega
      · obtain rfl : k = fs.length := by omega
        rw [List.take_length] at HV
        go_wp2
        go_ret2
        exact HE.out _ _ (ownsRow_base_a HV.out HB.out.size) HB2.out
end Go.Proofs.YtlgpkbcefaldoaaDoor

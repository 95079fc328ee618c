/- Layer 3: contracts of the reference's New, Append, Delete. -/
import Derived.Test.YtnjphflaggefeaaW03s
import Derived.Deep.RegionLaw
namespace Go.Proofs.Ytnjphflaggefeaa
open Go.RowKit Go.Maps Go.WideMaps
set_option linter.unusedVariables false

set_option maxHeartbeats 400000 in
set_option maxRecDepth 100000 in
theorem ref_new (w : World) :
    Calls Try.prog 11 #[] w fun e w' => ∃ p, e = .returned (.pointer (some ⟨p, 0, none⟩)) ∧ RefAt w' p Bx.new (fun k => w.heap.size ≤ k ∧ k < w'.heap.size) ∧ Below w.heap.size w w' := by
  go_enter Try.func11, Try.ntmps11
  go_wp2
  go_ret
  refine ⟨w.heap.size, rfl, ⟨.slice none 0 0, ⟨?_, World.ownsRow_nil _ _ _ _, by simp, fun k hk => by simp [Value.ownBlock] at hk, ⟨List.Pairwise.nil, by simp [Bx.new]⟩, by decide⟩⟩, (Below.refl _ _).alloc (Nat.le_refl _) _⟩
  exact heap_alloc_new _ _

set_option maxHeartbeats 1000000 in
set_option maxRecDepth 100000 in
theorem ref_append {w : World} {p : Nat} {S : Bx} {F : Nat → Prop} (h : RefAt w p S F) (s d : ByteArray) (hs : s.size ≤ maxLen) (hz : weigh S.files + d.size ≤ 1099511627776) :
    Calls Try.prog 13 #[.pointer (some ⟨p, 0, none⟩), .string s, .string d] w fun r w' => r = .returned (.int .i64 (S.append s.data.toList d.data.toList).2) ∧ RefAt w' p (S.append s.data.toList d.data.toList).1 (Grew F w w') ∧ Turn F w w' := by
  obtain ⟨v, h⟩ := h
  unfold maxLen at hs
  by_cases hd : S.down = true
  · rw [Bx.append_down hd]
    have c2 := h.c2
    rw [hd] at c2
    have H := Lib.hid h
    clear h hd
    go_enter Try.func13, Try.ntmps13
    go_wp2
    go_ret
    exact ⟨rfl, RefAt.mono ⟨v, H.out⟩ (fun k hk => .inl hk), Turn.refl _ _⟩
  · have hd' : S.down = false := by simpa using hd
    by_cases hn : nameOK s.data.toList = true
    · rw [Bx.append_ok hd' hn]
      by_cases h0 : S.fuel = 0
      · rw [Bx.change_no h0]
        have hsz : 1 ≤ s.size ∧ s.size ≤ 32 := by
          have := nameOK_eq s
          rw [hn] at this
          simpa using (of_decide_eq_true this.symm)
        have hg1 : ¬ (s.size : Int) < 1 := by omega
        have hg2 : ¬ (32 : Int) < (s.size : Int) := by omega
        have c2 := h.c2
        rw [hd'] at c2
        have hb := rburn_no h h0
        have hfp := h.fp
        clear h hd hd' hn h0
        go_enter Try.func13, Try.ntmps13
        go_wp2_with fail
        refine hb.mono ?_
        rintro r w1 ⟨rfl, h1, t1⟩
        go_wp2
        go_ret
        exact ⟨rfl, RefAt.mono ⟨v, h1⟩ (fun k hk => .inl hk), t1.toF hfp⟩
      · rw [Bx.change_yes h0]
        cases hf : findK s.data.toList S.files with
        | none =>
          have e : addK s.data.toList d.data.toList S.files = insK (s.data.toList, ⟨d.data.toList, 0⟩) S.files := by unfold addK; rw [hf]
          rw [e]
          exact rappend_new h hd' s d hn hf h0 hz
        | some f =>
          have e : addK s.data.toList d.data.toList S.files = updK s.data.toList (addF d.data.toList f) S.files := by unfold addK; rw [hf]
          rw [e]
          exact (rappend_old h hd' s d hn hf h0 hz).mono fun r w' ⟨h1, h2, h3⟩ => ⟨h1, h2.mono (fun k hk => .inl hk), h3⟩
    · have hn' : nameOK s.data.toList = false := by simpa using hn
      rw [Bx.append_bad hd' hn']
      have hsz : s.size < 1 ∨ 32 < s.size := by
        have := nameOK_eq s
        rw [hn'] at this
        have := of_decide_eq_false this.symm
        omega
      have c2 := h.c2
      rw [hd'] at c2
      have H := Lib.hid h
      clear h hd hd' hn hn'
      rcases hsz with hz1 | hz1
      · have hg1 : (s.size : Int) < 1 := by omega
        go_enter Try.func13, Try.ntmps13
        go_wp2
        go_ret
        exact ⟨rfl, RefAt.mono ⟨v, H.out⟩ (fun k hk => .inl hk), Turn.refl _ _⟩
      · have hg1 : ¬ (s.size : Int) < 1 := by omega
        have hg2 : (32 : Int) < (s.size : Int) := by omega
        go_enter Try.func13, Try.ntmps13
        go_wp2
        go_ret
        exact ⟨rfl, RefAt.mono ⟨v, H.out⟩ (fun k hk => .inl hk), Turn.refl _ _⟩

set_option maxHeartbeats 2000000 in
set_option maxRecDepth 100000 in
theorem rdelete_ok {w : World} {p : Nat} {v : Value} {S : Bx} {F : Nat → Prop} (h : RefIn w p v S F) (hd : S.down = false) (s : ByteArray) {f : FileS} (hf : findK s.data.toList S.files = some f) (h0 : S.fuel ≠ 0) (hz : weigh S.files ≤ 1099511627776) :
    Calls Try.prog 17 #[.pointer (some ⟨p, 0, none⟩), .string s] w fun r w' => r = .returned (.int .i64 0) ∧ RefAt w' p ⟨dropK s.data.toList S.files, S.burnt.fuel, S.burnt.down⟩ (Grew F w w') ∧ Turn F w w' := by
  obtain ⟨i0, hi, hz0, hz1, hz2⟩ := info_parts infoFile
  have hlw : S.burnt.files.length ≤ 1099511627776 := by
    have := len_weigh S.files
    show S.files.length ≤ _
    omega
  have hat := rat_any h s
  rw [hf] at hat
  have c2 := h.c2
  rw [hd] at c2
  have H := Lib.hid h
  have HF := Lib.hid hf
  have H0 := Lib.hid h0
  clear h hd hf h0
  go_enter Try.func17, Try.ntmps17
  go_wp2_with fail
  refine hat.mono ?_
  rintro r w1 ⟨rfl, nd, rfl⟩
  go_wp2_with fail
  refine (rburn_ok (H.out.below (below_drawn _ nd)) H0.out).mono ?_
  rintro r w2 ⟨rfl, h2, t2⟩
  have T2 := Lib.hid ((Turn.of_below F (below_drawn w nd)).trans (t2.toF H.out.fp) (fun i hi => .inl hi))
  obtain ⟨hpl, hk, hv⟩ := find_at h2.ok.rising HF.out
  have HK : Hid (placeK s.data.toList S.files = placeK s.data.toList S.burnt.files) := rfl
  have hdr := drop_place (l := S.burnt.files) h2.ok.rising HF.out
  have HDR := Lib.hid hdr
  obtain ⟨x1, e1, s1⟩ := src_take slFile szFile h2.row (rcells_one _) (Nat.le_of_lt hpl)
  obtain ⟨x2, e2, s2⟩ := src_drop slFile szFile h2.row (rcells_one _) (k := placeK s.data.toList S.burnt.files + 1) hpl
  rw [HK.out]
  have S1 := Lib.hid s1
  have S2 := Lib.hid s2
  have H2 := Lib.hid h2
  have c0 := h2.c0
  have f0 := h2.free 0
  have HKB := Lib.hid hpl
  have hkb : placeK s.data.toList S.burnt.files < S.burnt.files.length := hpl
  generalize placeK s.data.toList S.burnt.files = k at *
  have e2' : ∀ wx, (Instr.slice 37 v (some (.int .i64 ((k : Int) + 1))) none none).run Try.prog wx = .ok x2 wx := e2
  have hwk : IntKind.i64.wrap ((k : Int) + 1) = (k : Int) + 1 := IntWalk.i64_in _ (by omega)
  clear h2 t2 s1 s2 hdr hk hv e2 hpl hat
  have hnil := World.ownsRow_nil w2 0 68 3
  go_upto_region 8 with (fail)
  go_region_law (first
    | (refine step_app _ (by rfl) _ _ (by rfl) Try.underlying37 hi hz0 hz1 hz2 rfl (by decide) (by rfl) (World.ownsRow_nil _ 0 68 3) (by rfl) (S1.out _ (turn_no (below_drew _))) (by omega) (by unfold maxLen; omega) ?_; intro b3 c3 w3 o3 g3 l3; simp only [Nat.zero_add, List.nil_append] at o3 l3; have t3 : Turn NoF w2 w3 := (turn_no (below_drew w2)).grown g3 (fun k hk => by simp [Value.ownBlock] at hk); have n3 : Hid (∀ j, (Value.slice b3 k c3).ownBlock = some j → w2.heap.size ≤ j) := (fun j hj => by rcases l3 j hj with h | h; simp [Value.ownBlock] at h; exact h); have q3 : w3.cell? ⟨p, 0, none⟩ = some v := (World.cell?_of_block (w := w2) (t3.block p H2.out.lt (fun h => h))).trans c0)
    | (refine step_app _ (by rfl) _ _ (by rfl) Try.underlying37 hi hz0 hz1 hz2 rfl (by decide) (by rfl) o3 (by rfl) (S2.out _ t3) (by omega) (by unfold maxLen; omega) ?_; intro b4 c4 w4 o4 g4 l4; have t4 : Turn NoF w2 w4 := t3.grown g4 (fun j hj => .inr (n3.out j hj)); have n4 : Hid (∀ j, (Value.slice b4 (k + (S.burnt.files.length - (k + 1))) c4).ownBlock = some j → w2.heap.size ≤ j) := (fun j hj => by rcases l4 j hj with h | h; exact n3.out j h; have := t3.size; omega); have q4 : w4.cell? ⟨p, 0, none⟩ = some v := (World.cell?_of_block (w := w2) (t4.block p H2.out.lt (fun h => h))).trans c0; have r4 : w4.frozen? ⟨p, 0, none⟩ = false := (World.frozen?_of_block (w := w2) (t4.block p H2.out.lt (fun h => h))).trans f0))
  all_goals
    have hdl : (dropK s.data.toList S.burnt.files).length = k + (S.burnt.files.length - (k + 1)) := by rw [HDR.out]; simp; omega
    have o4' : w4.ownsRow 0 68 3 (Value.slice b4 (k + (S.burnt.files.length - (k + 1))) c4) (dropK s.data.toList S.burnt.files).length (rcells (dropK s.data.toList S.burnt.files)) := by
      rw [hdl, HDR.out, rcells_append, ← rcells_take, ← rcells_drop]; exact o4
    have HRE := Lib.hid (H2.out.reRow t4 o4' n4.out (H2.out.ok.drop _))
    clear o4 o4' hdl o3 t3 t4 g3 g4 l3 l4
    go_wp2_with (fail)
    go_ret
    have g1 := HRE.out.2.size
    have g2 := T2.out.size
    refine ⟨rfl, RefAt.mono ⟨_, HRE.out.1⟩ (fun j hj => ?_), T2.out.trans HRE.out.2 (fun i hi => .inl hi)⟩
    rcases hj with hj | hj
    · exact .inl hj
    · exact .inr ⟨by omega, hj.2⟩

set_option maxHeartbeats 1000000 in
set_option maxRecDepth 100000 in
theorem ref_delete {w : World} {p : Nat} {S : Bx} {F : Nat → Prop} (h : RefAt w p S F) (s : ByteArray) (hz : weigh S.files ≤ 1099511627776) :
    Calls Try.prog 17 #[.pointer (some ⟨p, 0, none⟩), .string s] w fun r w' => r = .returned (.int .i64 (S.delete s.data.toList).2) ∧ RefAt w' p (S.delete s.data.toList).1 (Grew F w w') ∧ Turn F w w' := by
  obtain ⟨v, h⟩ := h
  have hat := rat_any h s
  have H := Lib.hid h
  by_cases hd : S.down = true
  · rw [Bx.delete_down hd]
    have c2 := h.c2
    rw [hd] at c2
    clear h hd
    go_enter Try.func17, Try.ntmps17
    go_wp2_with fail
    refine hat.mono ?_
    rintro r w1 ⟨rfl, n, rfl⟩
    go_wp2
    go_ret
    exact ⟨rfl, (RefAt.below ⟨v, H.out⟩ (below_drawn _ _)).mono (fun k hk => .inl hk), Turn.of_below _ (below_drawn _ _)⟩
  · have hd' : S.down = false := by simpa using hd
    have c2 := h.c2
    rw [hd'] at c2
    cases hf : findK s.data.toList S.files with
    | none =>
      rw [Bx.delete_none hd' hf]
      rw [hf] at hat
      clear h hd hd' hf
      go_enter Try.func17, Try.ntmps17
      go_wp2_with fail
      refine hat.mono ?_
      rintro r w1 ⟨rfl, n, rfl⟩
      go_wp2
      go_ret
      exact ⟨rfl, (RefAt.below ⟨v, H.out⟩ (below_drawn _ _)).mono (fun k hk => .inl hk), Turn.of_below _ (below_drawn _ _)⟩
    | some f =>
      rw [Bx.delete_some hd' hf]
      by_cases h0 : S.fuel = 0
      · rw [Bx.change_no h0]
        rw [hf] at hat
        have H0 := Lib.hid h0
        clear h hd hd' hf h0
        go_enter Try.func17, Try.ntmps17
        go_wp2_with fail
        refine hat.mono ?_
        rintro r w1 ⟨rfl, n, rfl⟩
        go_wp2_with fail
        refine (rburn_no (H.out.below (below_drawn _ n)) H0.out).mono ?_
        rintro r w2 ⟨rfl, h2, t2⟩
        go_wp2
        go_ret
        exact ⟨rfl, RefAt.mono ⟨v, h2⟩ (fun k hk => .inl hk), (Turn.of_below _ (below_drawn _ _)).trans (t2.toF H.out.fp) (fun i hi => .inl hi)⟩
      · rw [Bx.change_yes h0]
        exact rdelete_ok h hd' s hf h0 hz

theorem infoStr : (Try.prog.info? 9).map (fun i => (i.zero, i.size, i.bytes)) = some (some (.string ⟨#[]⟩), 1, 16) := by kernel_rfl

set_option maxHeartbeats 1000000 in
set_option maxRecDepth 100000 in
theorem ref_list {w : World} {p : Nat} {S : Bx} {F : Nat → Prop} (h : RefAt w p S F) (hz : weigh S.files ≤ 1099511627776) :
    Calls Try.prog 36 #[.pointer (some ⟨p, 0, none⟩)] w fun r w' => ∃ v, r = .returned (.tuple #[v, .int .i64 (if S.down then 30 else 0)]) ∧ w'.ownsRow w.heap.size 9 1 v (if S.down then 0 else S.files.length) (if S.down then [] else S.files.map fun x => tx x.1) ∧ Below w.heap.size w w' := by
  obtain ⟨v, h⟩ := h
  have H := Lib.hid h
  by_cases hd : S.down = true
  · rw [if_pos hd, if_pos hd, if_pos hd]
    have c2 := h.c2
    rw [hd] at c2
    clear h hd
    go_enter Try.func36, Try.ntmps36
    go_wp2
    go_ret2
    exact ⟨_, rfl, World.ownsRow_nil _ _ _ _, Below.refl _ _⟩
  · rw [if_neg hd, if_neg hd, if_neg hd]
    have hd' : S.down = false := by simpa using hd
    obtain ⟨i0, hi, hz0, hz1, hz2⟩ := info_parts infoStr
    have hlw := len_weigh S.files
    have c2 := h.c2
    rw [hd'] at c2
    obtain ⟨va, vc, rfl⟩ := ownsRow_slice h.row
    have c0 := h.c0
    have hpw := h.lt
    clear h hd hd'
    go_enter Try.func36, Try.ntmps36
    go_wp2
    go_loopw [4, 5] (fun lv iv wr => ∃ k : Nat, k ≤ S.files.length ∧ iv = .int .i64 (k : Int) ∧ wr.ownsRow w.heap.size 9 1 lv k ((S.files.take k).map fun x => tx x.1) ∧ Below w.heap.size w wr) (fun _ iv _ => S.files.length - (intOf iv).toNat)
    case atStart => exact ⟨0, by omega, rfl, World.ownsRow_nil _ _ _ _, Below.refl _ _⟩
    case round =>
      obtain ⟨k, hk, rfl, hown, hb⟩ := hrel
      have hsz := hb.size
      have c0r : wr.cell? ⟨p, 0, none⟩ = some (.slice va S.files.length vc) := (hb.cell (p := ⟨p, 0, none⟩) hpw).trans c0
      by_cases hlt : k < S.files.length
      · obtain ⟨g, cap, hv, hgp, hcap, hcm, q0, _, _, _⟩ := H.out.file hlt
        injection hv with hv1 hv2 hv3
        subst hv1
        have q0r : wr.cell? ⟨g, k * 3, none⟩ = some (tx S.files[k].1) := (hb.cell (p := ⟨g, k * 3, none⟩) (World.block_lt_of_cell? _ _ q0)).trans q0
        have htk : (S.files.take (k + 1)).map (fun x => tx x.1) = (S.files.take k).map (fun x => tx x.1) ++ [tx S.files[k].1] := by rw [List.take_succ_eq_append_getElem hlt, List.map_append]; rfl
        have HTK := Lib.hid htk
        unfold tx at q0r
        clear q0 htk hv2
        have hone := new_one wr (.string ⟨S.files[k].1.toArray⟩) 9
        go_wp2_with (at_builtin; refine wpList_append_own _ rfl (.tmp 19) (.tmp 28) 48 rfl w.heap.size 9 i0 (.string ⟨#[]⟩) 1 16 Try.underlying48 hi hz0 hz1 hz2 rfl (by decide) _ _ _ rfl (hown.alloc _) ⟨wr.heap.size, 0, none⟩ 1 1 [.string ⟨S.files[k].1.toArray⟩] rfl rfl hone ?c2 ?c3 ?c4 ?c5 ?_)
        case c2 => intro u hu; simp at hu; subst hu; rfl
        case c3 => unfold maxLen; omega
        case c4 => omega
        case c5 => simp; omega
        intro v' w3 hown' hgrow _
        have hown2 : w3.ownsRow w.heap.size 9 1 v' (k + 1) ((S.files.take (k + 1)).map fun x => tx x.1) := by rw [HTK.out, List.map_take]; exact hown'
        have hb4 := (hb.alloc hsz _).grown hgrow (by simp; omega) (fun k hk => (hown.lt k hk).1)
        clear hown hown' hgrow hb hi hone
        go_wp2
        go_roundw
        case rel => exact ⟨k + 1, by omega, by go_num, hown2, hb4⟩
        case measure => simp [intOf]; omega
      · obtain rfl : k = S.files.length := by omega
        rw [List.take_length] at hown
        have HO := Lib.hid hown
        clear hown
        go_wp2
        go_ret2
        exact ⟨_, rfl, HO.out, hb⟩
end Go.Proofs.Ytnjphflaggefeaa

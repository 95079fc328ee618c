/- Layer 3: the contract of the reference's Append. -/
import Derived.Test.YtnjphflaggefeaaW03r
namespace Go.Proofs.Ytnjphflaggefeaa
open Go.RowKit Go.Maps Go.WideMaps
set_option linter.unusedVariables false

/-- The soft bytes of a file, added to: one store. -/
theorem RefIn.soft {w : World} {p g cap : Nat} {S : Bx} {F : Nat → Prop} (h : RefIn w p (.slice (some ⟨g, 0, none⟩) S.files.length cap) S F) {n : Key} {f : FileS} (hf : findK n S.files = some f) (d : List UInt8) :
    RefAt (w.setCell ⟨g, placeK n S.files * 3 + 2, none⟩ (tx (f.bytes.drop f.dur ++ d))) p ⟨updK n (addF d f) S.files, S.fuel, S.down⟩ F ∧ Turn F w (w.setCell ⟨g, placeK n S.files * 3 + 2, none⟩ (tx (f.bytes.drop f.dur ++ d))) := by
  obtain ⟨hpl, hk, hv⟩ := find_at h.ok.rising hf
  have hd : f.dur ≤ f.bytes.length := h.ok.dur (n, f) (findK_mem hf)
  obtain ⟨r0, r1, r2⟩ := rcells_at S.files _ hpl
  refine h.upd hf (addF d f) (by show f.dur ≤ (f.bytes ++ d).length; rw [List.length_append]; omega) ((Turn.refl (fun k => k = g) w).setCell (p := ⟨g, _, none⟩) (.inl rfl) _) ?_
  have e1 : (addF d f).bytes.take (addF d f).dur = S.files[placeK n S.files].2.bytes.take S.files[placeK n S.files].2.dur := by
    rw [hv]
    show (f.bytes ++ d).take f.dur = _
    rw [List.take_append_of_le_length hd]
  have e2 : (addF d f).bytes.drop (addF d f).dur = f.bytes.drop f.dur ++ d := by
    show (f.bytes ++ d).drop f.dur = _
    rw [List.drop_append_of_le_length hd]
  rw [e1, e2, set_same r1]
  exact ownsRow_set h.row (by omega) _

set_option maxHeartbeats 1000000 in
set_option maxRecDepth 100000 in
theorem rappend_old {w : World} {p : Nat} {v : Value} {S : Bx} {F : Nat → Prop} (h : RefIn w p v S F) (hd : S.down = false) (s d : ByteArray) (hn : nameOK s.data.toList = true) {f : FileS} (hf : findK s.data.toList S.files = some f) (h0 : S.fuel ≠ 0) (hz : weigh S.files + d.size ≤ 1099511627776) :
    Calls Try.prog 13 #[.pointer (some ⟨p, 0, none⟩), .string s, .string d] w fun r w' => r = .returned (.int .i64 0) ∧ RefAt w' p ⟨updK s.data.toList (addF d.data.toList f) S.files, S.burnt.fuel, S.burnt.down⟩ F ∧ Turn F w w' := by
  have hsz : 1 ≤ s.size ∧ s.size ≤ 32 := by
    have := nameOK_eq s
    rw [hn] at this
    simpa using (of_decide_eq_true this.symm)
  have c2 := h.c2
  rw [hd] at c2
  have H := Lib.hid h
  have HF := Lib.hid hf
  have H0 := Lib.hid h0
  have hg1 : ¬ (s.size : Int) < 1 := by omega
  have hg2 : ¬ (32 : Int) < (s.size : Int) := by omega
  clear h hd hn hf h0
  go_enter Try.func13, Try.ntmps13
  go_wp2_with fail
  refine (rburn_ok H.out H0.out).mono ?_
  rintro r w1 ⟨rfl, h1, t1⟩
  go_wp2_with fail
  refine (rat_any h1 s).mono ?_
  rintro r w2 ⟨rfl, n, rfl⟩
  rw [show findK s.data.toList S.burnt.files = some f from HF.out]
  have h2 := h1.below (below_drawn _ n)
  obtain ⟨hpl, hk, hv⟩ := find_at h2.ok.rising HF.out
  have hlen := findK_len HF.out
  obtain ⟨g, cap, rfl, hgp, hcap, hcm, q0, q1, q2, hfr⟩ := h2.file hpl
  have hs := RefIn.soft (S := S.burnt) h2 HF.out d.data.toList
  have c0 := h2.c0
  rw [hv] at q2
  have s2 : (ByteArray.mk (f.bytes.drop f.dur).toArray).size ≤ 1099511627776 := by show (f.bytes.drop f.dur).toArray.size ≤ _; simp; omega
  have f2 := hfr (placeK s.data.toList S.burnt.files * 3 + 2)
  have T1 := Lib.hid t1
  have T2 := Lib.hid (below_drawn w1 n)
  have HS := Lib.hid hs
  have hkb : placeK s.data.toList S.burnt.files < S.burnt.files.length := hpl
  have HX : Hid (Value.string (ByteArray.mk (f.bytes.drop f.dur).toArray ++ d) = tx (f.bytes.drop f.dur ++ d.data.toList)) := by
    show _ = _
    unfold tx
    rw [← text_join (a := f.bytes.drop f.dur) (b := d.data.toList) rfl]
  unfold tx at q2
  unfold maxLen at hcm
  have HK : Hid (placeK s.data.toList S.files = placeK s.data.toList S.burnt.files) := rfl
  generalize hkk : placeK s.data.toList S.burnt.files = k at *
  generalize ByteArray.mk (f.bytes.drop f.dur).toArray = x2 at *
  generalize hw2 : w1.drewN n = w2 at *
  clear hpl hk hv q0 q1 hkk h1 h2 t1 hfr hs hw2
  go_wp2
  go_ret
  rw [HX.out]
  exact ⟨rfl, HS.out.1, ((T1.out.toF H.out.fp).trans (Turn.of_below (fun _ => False) T2.out) (fun i hi => hi.elim)).trans HS.out.2 (fun i hi => .inl hi)⟩

theorem rcells_take (l : List (Key × FileS)) (k : Nat) : (rcells l).take (k * 3) = rcells (l.take k) := by
  induction l generalizing k with
  | nil => simp [rcells]
  | cons x r ih =>
    cases k with
    | zero => simp [rcells]
    | succ k =>
      rw [rcells_cons, List.take_succ_cons, rcells_cons, ← ih k]
      rw [show (k + 1) * 3 = 3 + k * 3 by omega]
      rw [List.take_append, List.take_of_length_le (by simp)]
      simp
theorem rcells_drop (l : List (Key × FileS)) (k : Nat) : (rcells l).drop (k * 3) = rcells (l.drop k) := by
  induction l generalizing k with
  | nil => simp [rcells]
  | cons x r ih =>
    cases k with
    | zero => simp
    | succ k =>
      rw [rcells_cons, List.drop_succ_cons, ← ih k]
      rw [show (k + 1) * 3 = 3 + k * 3 by omega]
      rw [List.drop_append]
      simp
theorem turn_no {w w' : World} (h : Below w.heap.size w w') : Turn NoF w w' := Turn.of_below _ h

set_option maxHeartbeats 2000000 in
set_option maxRecDepth 100000 in
theorem rappend_new {w : World} {p : Nat} {v : Value} {S : Bx} {F : Nat → Prop} (h : RefIn w p v S F) (hd : S.down = false) (s d : ByteArray) (hn : nameOK s.data.toList = true) (hf : findK s.data.toList S.files = none) (h0 : S.fuel ≠ 0) (hz : weigh S.files + d.size ≤ 1099511627776) :
    Calls Try.prog 13 #[.pointer (some ⟨p, 0, none⟩), .string s, .string d] w fun r w' => r = .returned (.int .i64 0) ∧ RefAt w' p ⟨insK (s.data.toList, ⟨d.data.toList, 0⟩) S.files, S.burnt.fuel, S.burnt.down⟩ (Grew F w w') ∧ Turn F w w' := by
  obtain ⟨i0, hi, hz0, hz1, hz2⟩ := info_parts infoFile
  have hsz : 1 ≤ s.size ∧ s.size ≤ 32 := by
    have := nameOK_eq s
    rw [hn] at this
    simpa using (of_decide_eq_true this.symm)
  have hlw : S.burnt.files.length ≤ 1099511627776 := by
    have := len_weigh S.files
    show S.files.length ≤ _
    omega
  have c2 := h.c2
  rw [hd] at c2
  have H := Lib.hid h
  have HF := Lib.hid hf
  have H0 := Lib.hid h0
  have hg1 : ¬ (s.size : Int) < 1 := by omega
  have hg2 : ¬ (32 : Int) < (s.size : Int) := by omega
  clear h hd hn hf h0
  go_enter Try.func13, Try.ntmps13
  go_wp2_with fail
  refine (rburn_ok H.out H0.out).mono ?_
  rintro r w1 ⟨rfl, h1, t1⟩
  go_wp2_with fail
  refine (rat_any h1 s).mono ?_
  rintro r w2 ⟨rfl, nd, rfl⟩
  rw [show findK s.data.toList S.burnt.files = none from HF.out]
  have h2 := h1.below (below_drawn _ nd)
  have T2 := Lib.hid ((t1.toF H.out.fp).trans (Turn.of_below (fun _ => False) (below_drawn w1 nd)) (fun i hi => hi.elim))
  have hpl : placeK s.data.toList S.burnt.files ≤ S.burnt.files.length := place_le
  have HK : Hid (placeK s.data.toList S.files = placeK s.data.toList S.burnt.files) := rfl
  have hins := ins_place (l := S.burnt.files) HF.out (⟨[], 0⟩ : FileS)
  have HINS := Lib.hid hins
  generalize hw2 : w1.drewN nd = w2 at *
  obtain ⟨x1, e1, s1⟩ := src_take slFile szFile h2.row (rcells_one _) hpl
  obtain ⟨x2, e2, s2⟩ := src_drop slFile szFile h2.row (rcells_one _) hpl
  have S1 := Lib.hid s1
  have S2 := Lib.hid s2
  have H2 := Lib.hid h2
  have c0 := h2.c0
  have f0 := h2.free 0
  generalize hkk : placeK s.data.toList S.burnt.files = k at *
  have HKK := Lib.hid hkk
  clear hkk hw2 h1 h2 t1 s1 s2 hins
  have hnil := World.ownsRow_nil w2 0 68 3
  go_wp2_with (at_builtin; refine wpList_app _ rfl _ (.tmp 38) rfl Try.underlying37 hi hz0 hz1 hz2 rfl (by decide) rfl hnil rfl (S1.out w2 (Turn.refl _ _)) ?c1 ?c2 ?_)
  case c1 => omega
  case c2 => unfold maxLen; omega
  intro v3 w3 o3 g3 l3
  have t3 : Turn NoF w2 w3 := (Turn.refl NoF w2).grown g3 (fun k hk => by simp [Value.ownBlock] at hk)
  have n3 : ∀ j, v3.ownBlock = some j → w2.heap.size ≤ j := fun j hj => by
    rcases l3 j hj with h | h
    · simp [Value.ownBlock] at h
    · exact h
  have c3 : w3.cell? ⟨p, 0, none⟩ = some v := (World.cell?_of_block (w := w2) (t3.block p H2.out.lt (fun h => h))).trans c0
  have f3 : w3.frozen? ⟨p, 0, none⟩ = false := (World.frozen?_of_block (w := w2) (t3.block p H2.out.lt (fun h => h))).trans f0
  have N3 := Lib.hid n3
  have T3 := Lib.hid t3
  clear hnil g3 l3 n3 t3 c0 f0
  have hsrc := src_new (sz := 3) w3 #[.string s, .string ⟨#[]⟩, .string ⟨#[]⟩] 68 rfl (by simp [Value.oneCell'])
  have o3' := o3.alloc (.cells #[.string s, .string ⟨#[]⟩, .string ⟨#[]⟩] 68)
  go_wp2_with (at_builtin; refine wpList_app _ rfl (.tmp 40) (.tmp 43) rfl Try.underlying37 hi hz0 hz1 hz2 rfl (by decide) rfl o3' rfl hsrc ?d1 ?d2 ?_)
  case d1 => omega
  case d2 => unfold maxLen; omega
  intro v4 w4 o4 g4 l4
  have t4 : Turn NoF w2 w4 := (T3.out.alloc _).grown g4 (fun j hj => .inr (N3.out j hj))
  have n4 : ∀ j, v4.ownBlock = some j → w2.heap.size ≤ j := fun j hj => by
    rcases l4 j hj with h | h
    · exact N3.out j h
    · have := T3.out.size
      have h' : w3.heap.size + 1 ≤ j := by simpa using h
      omega
  have c4 : w4.cell? ⟨p, 0, none⟩ = some v := by rw [World.cell?_of_block (w := w2) (t4.block p H2.out.lt (fun h => h))]; exact H2.out.c0
  have f4 : w4.frozen? ⟨p, 0, none⟩ = false := by rw [World.frozen?_of_block (w := w2) (t4.block p H2.out.lt (fun h => h))]; exact H2.out.free 0
  have N4 := Lib.hid n4
  have T4 := Lib.hid t4
  have hs4 := S2.out w4 t4
  clear hsrc o3 o3' g4 l4 n4 t4 c3 f3
  go_wp2_with (at_builtin; refine wpList_app _ rfl (.tmp 46) (.tmp 52) rfl Try.underlying37 hi hz0 hz1 hz2 rfl (by decide) rfl o4 rfl hs4 ?e1 ?e2 ?_)
  case e1 => omega
  case e2 => unfold maxLen; omega
  intro v5 w5 o5 g5 l5
  have t5 : Turn NoF w2 w5 := T4.out.grown g5 (fun j hj => .inr (N4.out j hj))
  have n5 : ∀ j, v5.ownBlock = some j → w2.heap.size ≤ j := fun j hj => by
    rcases l5 j hj with h | h
    · exact N4.out j h
    · have := T4.out.size; omega
  have c5 : w5.cell? ⟨p, 0, none⟩ = some v := by rw [World.cell?_of_block (w := w2) (t5.block p H2.out.lt (fun h => h))]; exact H2.out.c0
  have f5 : w5.frozen? ⟨p, 0, none⟩ = false := by rw [World.frozen?_of_block (w := w2) (t5.block p H2.out.lt (fun h => h))]; exact H2.out.free 0
  have hln : k + 1 + (S.burnt.files.length - k) = (insK (s.data.toList, (⟨[], 0⟩ : FileS)) S.burnt.files).length := by rw [insK_len]; omega
  have hcl : (rcells S.burnt.files).take (k * 3) ++ [.string s, .string ⟨#[]⟩, .string ⟨#[]⟩] ++ (rcells S.burnt.files).drop (k * 3) = rcells (insK (s.data.toList, (⟨[], 0⟩ : FileS)) S.burnt.files) := by
    rw [HINS.out, rcells_append, rcells_cons, rcells_take, rcells_drop]
    have : tx s.data.toList = .string s := tx_data s
    simp only [this, List.append_assoc]
    rfl
  have o5' : w5.ownsRow 0 68 3 v5 (insK (s.data.toList, (⟨[], 0⟩ : FileS)) S.burnt.files).length (rcells (insK (s.data.toList, (⟨[], 0⟩ : FileS)) S.burnt.files)) := by
    rw [← hln, ← hcl]; simpa using o5
  have hre := H2.out.reRow t5 o5' n5 (H2.out.ok.ins HF.out (Nat.le_refl _))
  have HRE := Lib.hid hre
  obtain ⟨a5, k5, rfl⟩ := ownsRow_slice o5
  clear hln hcl o5 o5' g5 l5 n5 t5 hre o4 hs4 c4 f4 hi
  go_upto_region 12 with (fail)
  generalize w5.setCell ⟨p, 0, none⟩ (.slice a5 (k + 1 + (S.burnt.files.length - k)) k5) = w6 at *
  have hfi : findK s.data.toList (insK (s.data.toList, (⟨[], 0⟩ : FileS)) S.burnt.files) = some ⟨[], 0⟩ := by
    rw [findK_ins (l := S.burnt.files) HF.out, if_pos rfl]
  have hpk : placeK s.data.toList (insK (s.data.toList, (⟨[], 0⟩ : FileS)) S.burnt.files) = k := by
    rw [place_ins (l := S.burnt.files) HF.out]; exact HKK.out
  obtain ⟨hpl6, hk6, hv6⟩ := find_at HRE.out.1.ok.rising hfi
  obtain ⟨g, cap, hvv, hgp, hcap, hcm, q0, q1, q2, hfr⟩ := HRE.out.1.file hpl6
  have hs := RefIn.soft (S := ⟨insK (s.data.toList, (⟨[], 0⟩ : FileS)) S.burnt.files, S.burnt.fuel, S.burnt.down⟩) (g := g) (cap := cap) (by have := HRE.out.1; rw [hvv] at this; exact this) hfi d.data.toList
  have c6 := HRE.out.1.c0
  rw [hv6] at q2
  rw [hvv] at c6
  rw [hpk] at q2 hs
  have f6 := hfr (k * 3 + 2)
  have hkb : k < (insK (s.data.toList, (⟨[], 0⟩ : FileS)) S.burnt.files).length := by rw [insK_len]; omega
  have hup : updK s.data.toList (addF d.data.toList ⟨[], 0⟩) (insK (s.data.toList, (⟨[], 0⟩ : FileS)) S.burnt.files) = insK (s.data.toList, ⟨d.data.toList, 0⟩) S.burnt.files := upd_ins (l := S.burnt.files) HF.out
  have HUP := Lib.hid hup
  have q2' : w6.cell? ⟨g, k * 3 + 2, none⟩ = some (.string ⟨#[]⟩) := q2
  have HS := Lib.hid hs
  have HX : Hid (Value.string ((ByteArray.mk #[]) ++ d) = tx ((([] : List UInt8).drop 0) ++ d.data.toList)) := by
    show _ = _
    unfold tx
    congr 1
  unfold maxLen at hcm
  clear hfi hpk hpl6 hk6 hv6 hvv hs hup q0 q1 q2 hfr c5 f5
  generalize (insK (s.data.toList, (⟨[], 0⟩ : FileS)) S.burnt.files) = l6 at *
  go_wp2
  go_ret
  rw [HX.out]
  have hsf := HS.out
  rw [HUP.out] at hsf
  have g1 := hsf.2.size
  have g2 := HRE.out.2.size
  have g3 := T2.out.size
  refine ⟨rfl, hsf.1.mono (fun j hj => ?_), (T2.out.trans HRE.out.2 (fun i hi => .inl hi)).trans hsf.2 (fun i hi => ?_)⟩
  · rcases hj with hj | hj
    · exact .inl hj
    · exact .inr ⟨by omega, by omega⟩
  · rcases hi with hi | hi
    · exact .inl hi
    · exact .inr (by omega)
end Go.Proofs.Ytnjphflaggefeaa

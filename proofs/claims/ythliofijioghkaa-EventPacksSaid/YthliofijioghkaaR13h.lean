/- Layer 13: the contract of the reference's Unpack. -/
import Derived.Test.YthliofijioghkaaR13e
import Derived.Test.YthliofijioghkaaM13h
namespace Go.Proofs.Ythliofijioghkaa
open Go.RowKit
set_option linter.unusedVariables false

def rowE (l : List EvS) : List Value := l.flatMap EvS.cells
theorem rowE_snoc (l : List EvS) (x : EvS) : rowE (l ++ [x]) = rowE l ++ x.cells := by simp [rowE]
theorem rowE_at : ∀ (l : List EvS) (i : Nat) (h : i < l.length) (j : Nat) (u : Value), l[i].cells[j]? = some u → (rowE l)[i * 8 + j]? = some u
  | x :: r, 0, _, j, u, hu => by
    have e : rowE (x :: r) = x.cells ++ rowE r := rfl
    have hj : j < x.cells.length := (List.getElem?_eq_some_iff.1 hu).1
    rw [e, Nat.zero_mul, Nat.zero_add, List.getElem?_append_left hj]
    exact hu
  | x :: r, i + 1, h, j, u, hu => by
    have e : rowE (x :: r) = x.cells ++ rowE r := rfl
    have hl : x.cells.length = 8 := rfl
    have ih := rowE_at r i (by simpa using h) j u (by simpa using hu)
    rw [e, List.getElem?_append_right (by omega), show (i + 1) * 8 + j - x.cells.length = i * 8 + j by omega]
    exact ih
theorem EvS.one (x : EvS) : ∀ u ∈ x.cells, u.oneCell' = true := by
  intro u hu
  simp [EvS.cells] at hu
  rcases hu with rfl | rfl | rfl | rfl | rfl | rfl | rfl | rfl <;> rfl
theorem ReadE.own {w : World} {base : Nat} {v : Value} {l : List EvS} (h : w.ownsRow base 23 8 v l.length (rowE l)) (hz : ∀ x ∈ l, x.data.size ≤ maxLen) : ReadE w v l := by
  rcases h.2 with ⟨rfl, h0⟩ | ⟨g, cap, cur, rfl, _, hg, hle, hcm, _⟩
  · have : l = [] := List.eq_nil_of_length_eq_zero h0
    subst this
    exact ⟨by simp [maxLen], hz, none, 0, rfl, .inl rfl⟩
  · refine ⟨Nat.le_trans hle hcm, hz, some ⟨g, 0, none⟩, cap, rfl, .inr ⟨g, 0, rfl, fun i hi j u hu => ?_⟩⟩
    have hlt : i * 8 + j < l.length * 8 := by
      have : j < l[i].cells.length := (List.getElem?_eq_some_iff.1 hu).1
      have e : l[i].cells.length = 8 := rfl
      omega
    rw [Nat.zero_add]
    exact (h.cellAt (i * 8 + j) hlt).trans (rowE_at l i hi j u hu)
theorem ReadE.nil (w : World) : ReadE w (.slice none 0 0) [] := ⟨by simp [maxLen], fun x hx => (by cases hx), none, 0, rfl, .inl rfl⟩
/-- A history while it is read: the reader, the events so far. -/
structure HiAt (w wr : World) (R : Option (List UInt8)) (v : Value) (l : List EvS) : Prop where
  rd : RDE wr w.heap.size R
  row : wr.ownsRow 0 23 8 v l.length (rowE l)
  blk : ∀ k, v.ownBlock = some k → w.heap.size < k
  below : Below w.heap.size w wr
section
variable {w wr w' : World} {R R' : Option (List UInt8)} {v : Value} {l : List EvS}
theorem HiAt.call (h : HiAt w wr R v l) (t : Left wr w' w.heap.size R') : HiAt w w' R' v l :=
  ⟨t.1, h.row.kept t.2 (.inr (fun e => by have := h.blk _ e; omega)), h.blk, h.below.trans (t.below h.below.size (Nat.le_refl _))⟩
theorem HiAt.later (h : HiAt w wr R v l) (b : Below wr.heap.size wr w') : HiAt w w' R v l :=
  ⟨h.rd.below b, ownsRow_below h.row b, h.blk, h.below.trans (b.mono h.below.size)⟩
theorem HiAt.add {v' : Value} {x : EvS} (h : HiAt w wr R v l) (hg : wr.grownBy w' v.ownBlock) (ho : w'.ownsRow 0 23 8 v' (l.length + 1) (rowE l ++ x.cells)) (hv : ∀ k, v'.ownBlock = some k → v.ownBlock = some k ∨ wr.heap.size ≤ k) :
    HiAt w w' R v' (l ++ [x]) := by
  have hlt := h.rd.lt
  refine ⟨h.rd.kept hg (fun e => by have := h.blk _ e.symm; omega), by rw [List.length_append, rowE_snoc]; exact ho, fun k hk => ?_, h.below.grown hg h.below.size (fun k hk => Nat.le_of_lt (h.blk k hk))⟩
  rcases hv k hk with e | e
  · exact h.blk k e
  · omega
end
theorem Most.evs {N : Nat} {R : Option (List UInt8)} (h : Most N R) : ∀ n, Most N (rdEvs R n).2
  | 0 => h
  | n + 1 => (Most.evs h n).text.1
theorem Most.rdEv {N : Nat} {l : List UInt8} (h : l.length ≤ N) : (rdEv (some l)).1.data.size ≤ N :=
  (Most.flds (shapeL (rdHead (some l)).1.kind) (Most.head (N := N) (R := some l) (fun r hr => by injection hr with hr; rw [← hr]; exact h))).2
theorem rdEvs_data {N : Nat} {R : Option (List UInt8)} (h : Most N R) : ∀ n, ∀ x ∈ (rdEvs R n).1, x.data.size ≤ N
  | 0, x, hx => by cases hx
  | n + 1, x, hx => by
    rcases List.mem_append.1 hx with hx | hx
    · exact rdEvs_data h n x hx
    · rw [List.mem_singleton.1 hx]; exact Most.rdEv (Most.evs h n).text.2
theorem okTs_mono {R : Option (List UInt8)} {k : Nat} : ∀ {n : Nat}, k ≤ n → okTs R n = true → okTs R k = true
  | 0, h, _ => by
    obtain rfl : k = 0 := by omega
    rfl
  | n + 1, h, ht => by
    by_cases e : k = n + 1
    · subst e; exact ht
    · unfold okTs at ht
      rw [Bool.and_eq_true] at ht
      exact okTs_mono (by omega) ht.1

set_option maxHeartbeats 4000000 in
set_option maxRecDepth 100000 in
theorem runpack13_any (s : ByteArray) (hs : s.size ≤ 140737488351232) (w : World) :
    Calls Try.prog 16 #[.string s] w fun x w' => ∃ a c l E, x = .returned (.tuple #[.slice a (List.length l) c, .int .i64 (E : Nat)]) ∧ ReadE w' (.slice a l.length c) l ∧ HistEnd s.data.toList l E ∧ (∀ x ∈ l, x.data.size ≤ s.size) ∧ Below w.heap.size w w' := by
  obtain ⟨i0, hi0, hz0, hz1, hz2⟩ := info_parts infoEv
  obtain ⟨n, hn⟩ : ∃ n, (intS 500 (some s.data.toList)).1 = n := ⟨_, rfl⟩
  obtain ⟨R1, hR1⟩ : ∃ R, (intS 500 (some s.data.toList)).2 = R := ⟨_, rfl⟩
  have hn5 : n ≤ 500 := by rw [← hn]; exact numS_le 500 (some s.data.toList)
  have hM1 : Most s.size R1 := by
    rw [← hR1]
    have : Most s.size (some s.data.toList) := fun r hr => by injection hr with hr; rw [← hr]; simp
    exact this.int _
  have HM := Lib.hid hM1
  have HOK : Hid (okH s.data.toList = (okTs R1 n && (rdEvs R1 n).2 == some [])) := by
    show (okTs (intS 500 (some s.data.toList)).2 (intS 500 (some s.data.toList)).1 && (rdEvs (intS 500 (some s.data.toList)).2 (intS 500 (some s.data.toList)).1).2 == some []) = _
    rw [hR1, hn]
  have HRH : Hid (rdHist s.data.toList = rdEvs R1 n) := by
    show rdEvs (intS 500 (some s.data.toList)).2 (intS 500 (some s.data.toList)).1 = _
    rw [hR1, hn]
  obtain ⟨w1, hw1⟩ : ∃ w1, w.alloc (.cells #[.string s, .bool false] 65) = w1 := ⟨_, rfl⟩
  have b1 : Below w.heap.size w w1 := by rw [← hw1]; exact (Below.refl _ _).alloc (Nat.le_refl _) _
  have hr : w1.heap[w.heap.size]? = some (.cells #[.string s, .bool false] 65 (0, 0)) := by rw [← hw1]; exact heap_alloc_new _ _
  have hrd : RDE w1 w.heap.size (some s.data.toList) := ⟨s, rfl, by rw [block_cell hr]; rfl, by rw [block_cell hr]; rfl, block_free hr 0, block_free hr 1, hs⟩
  have HD0 : Hid (HiAt w w1 (some s.data.toList) (.slice none 0 0) []) := ⟨hrd, World.ownsRow_nil _ _ _ _, fun k hk => by simp [Value.ownBlock] at hk, b1⟩
  clear b1 hr hrd hM1
  go_enter Try.func16, Try.ntmps16
  go_wp2_with fail
  refine (rint2_any HD0.out.rd 500 (by omega) (by omega)).mono ?_
  rintro x wa ⟨rfl, hla⟩
  rw [hR1] at hla
  rw [hn]
  have HDa := Lib.hid (HD0.out.call hla)
  clear hla HD0 hR1 hn
  go_wp2
  go_loopw [6, 7] (fun lv iv wr => ∃ i : Nat, i ≤ n ∧ iv = .int .i64 (i : Int) ∧ Hid (HiAt w wr (rdEvs R1 i).2 lv (rdEvs R1 i).1 ∧ okTs R1 i = true)) (fun _ iv _ => n - (intOf iv).toNat)
  case atStart => exact ⟨0, Nat.zero_le _, rfl, HDa.out, rfl⟩
  case round =>
    clear HDa
    obtain ⟨i, hi, rfl, HI⟩ := hrel
    by_cases hlt : i < n
    · have HLEN : Hid ((rdEvs R1 i).1.length = i) := rdEvs_len R1 i
      have HNX : Hid (rdEvs R1 (i + 1) = ((rdEvs R1 i).1 ++ [(rdEv (some (textS (rdEvs R1 i).2).1)).1], (textS (rdEvs R1 i).2).2)) := rfl
      have HOT : Hid (okTs R1 (i + 1) = (okTs R1 i && okE (textS (rdEvs R1 i).2).1)) := rfl
      have HNO : Hid (okTs R1 (i + 1) = false → okH s.data.toList = false) := fun h => by
        rw [HOK.out]
        cases h2 : okTs R1 n with
        | false => rfl
        | true => rw [okTs_mono (by omega) h2] at h; cases h
      have hmes : n - (intOf (.int .i64 ((i : Int) + 1))).toNat < n - (intOf (.int .i64 (i : Int))).toNat := by simp [intOf]; omega
      have hts := (HM.out.evs i).text.2
      obtain ⟨v, hv⟩ : ∃ v, u6 = v := ⟨_, rfl⟩
      subst hv
      generalize (rdEvs R1 i).1 = L at *
      generalize (rdEvs R1 i).2 = R at *
      obtain ⟨T, hT⟩ : ∃ T, (textS R).1 = T := ⟨_, rfl⟩
      obtain ⟨Q, hQ⟩ : ∃ Q, (textS R).2 = Q := ⟨_, rfl⟩
      rw [hT] at HNX HOT hts
      rw [hQ] at HNX
      have htk : tv T = .string ⟨T.toArray⟩ := rfl
      have hBs : (⟨T.toArray⟩ : ByteArray).size ≤ 140737488351232 := by show T.toArray.size ≤ _; simp; omega
      have hdc := fun w => rdecode13_any ⟨T.toArray⟩ hBs w
      have hBl : (⟨T.toArray⟩ : ByteArray).data.toList = T := by simp
      rw [hBl] at hdc
      generalize (⟨T.toArray⟩ : ByteArray) = B at *
      clear hBs hBl hts
      go_wp2_with fail
      refine (rtext2_any HI.out.1.rd).mono ?_
      rintro x wA ⟨rfl, hA⟩
      rw [hT, htk]
      rw [hQ] at hA
      have HA := Lib.hid (HI.out.1.call hA)
      clear hA hT hQ htk
      go_wp2_with fail
      refine (hdc _).mono ?_
      rintro x wB ⟨e, E, rfl, hend, bB⟩
      have HB := Lib.hid (HA.out.later bB)
      have HEND := Lib.hid hend
      clear bB hend hdc HA
      obtain ⟨wC, hwC⟩ : ∃ wC, wB.alloc (.cells e.arr 23) = wC := ⟨_, rfl⟩
      have hC : HiAt w wC Q u6 L := by rw [← hwC]; exact HB.out.later ((Below.refl _ _).alloc (Nat.le_refl _) _)
      have hxC : wC.heap[wB.heap.size]? = some (.cells e.arr 23 (0, 0)) := by rw [← hwC]; exact heap_alloc_new _ _
      have HC := Lib.hid hC
      have hlw : w.heap.size < wB.heap.size := Nat.lt_of_lt_of_le HB.out.rd.lt (Nat.le_refl _)
      have hL1 := HLEN.out
      unfold EvS.val'
      obtain ⟨x0, x1, x2, x3, x4, x5, x6, x7⟩ := e
      unfold EvS.arr at hwC hxC
      simp only at hwC hxC
      have q0 : wC.cell? ⟨wB.heap.size, 0, none⟩ = some (.int .i64 x0) := by rw [block_cell hxC]; rfl
      have q1 : wC.cell? ⟨wB.heap.size, 1, none⟩ = some (.int .i64 x1) := by rw [block_cell hxC]; rfl
      have q2 : wC.cell? ⟨wB.heap.size, 2, none⟩ = some (.int .i64 x2) := by rw [block_cell hxC]; rfl
      have q3 : wC.cell? ⟨wB.heap.size, 3, none⟩ = some (.int .i64 x3) := by rw [block_cell hxC]; rfl
      have q4 : wC.cell? ⟨wB.heap.size, 4, none⟩ = some (.int .i64 x4) := by rw [block_cell hxC]; rfl
      have q5 : wC.cell? ⟨wB.heap.size, 5, none⟩ = some (.int .i64 x5) := by rw [block_cell hxC]; rfl
      have q6 : wC.cell? ⟨wB.heap.size, 6, none⟩ = some (.bool x6) := by rw [block_cell hxC]; rfl
      have q7 : wC.cell? ⟨wB.heap.size, 7, none⟩ = some (.string x7) := by rw [block_cell hxC]; rfl
      clear hC hxC
      rcases HEND.out with ⟨hok, hev, rfl⟩ | ⟨hok, hev, rfl⟩
      · have HT1 : Hid (okTs R1 (i + 1) = true) := by show _ = _; rw [HOT.out, HI.out.2, hok]; rfl
        have HE1 := Lib.hid hev
        have hsrc := src_new (sz := 8) wC #[.int .i64 x0, .int .i64 x1, .int .i64 x2, .int .i64 x3, .int .i64 x4, .int .i64 x5, .bool x6, .string x7] 23 rfl (by simp [Value.oneCell'])
        have hrow := HC.out.row.alloc (.cells #[.int .i64 x0, .int .i64 x1, .int .i64 x2, .int .i64 x3, .int .i64 x4, .int .i64 x5, .bool x6, .string x7] 23)
        clear hok hev HI HB
        go_wp2_with (at_builtin; go_loud (refine wpList_app _ rfl (.tmp 28) (.tmp 30) rfl Try.underlying36 hi0 hz0 hz1 hz2 rfl (by decide) rfl hrow rfl hsrc ?c1_a ?c2_a ?_))
        case c1_a => omega
        case c2_a => unfold maxLen; omega
        intro v' w4 hown hgrow hwh
        have HD4 := Lib.hid (HiAt.add (x := ⟨x0, x1, x2, x3, x4, x5, x6, x7⟩) (HC.out.later ((Below.refl _ _).alloc (Nat.le_refl _) _)) hgrow (by rw [hL1]; exact hown) (fun k hk => by rw [World.size_alloc]; exact hwh k hk))
        have HX : Hid ((rdEvs R1 (i + 1)).1 = L ++ [⟨x0, x1, x2, x3, x4, x5, x6, x7⟩] ∧ (rdEvs R1 (i + 1)).2 = Q) := by constructor <;> rw [HNX.out]; rw [HE1.out]
        clear hown hgrow hwh hsrc hrow q0 q1 q2 q3 q4 q5 q6 q7
        go_wp2
        go_roundw
        case rel => exact ⟨i + 1, by omega, by go_num, by rw [HX.out.1, HX.out.2]; exact HD4.out, HT1.out⟩
        case measure => exact hmes
      · have HT1 : Hid (okH s.data.toList = false) := HNO.out (by rw [HOT.out, hok, Bool.and_false])
        have hbl := HC.out.below
        have HBL := Lib.hid hbl
        clear hok hev HI HB hbl
        go_wp2
        go_ret2
        exact ⟨none, 0, [], 60, rfl, ReadE.nil _, .inr ⟨HT1.out, rfl, rfl⟩, fun x hx => (by cases hx), HBL.out⟩
    · obtain rfl : i = n := by omega
      have hdat := rdEvs_data HM.out i
      have HDT := Lib.hid hdat
      have hre : ReadE wr u6 (rdEvs R1 i).1 := ReadE.own HI.out.1.row (fun x hx => by have := hdat x hx; unfold maxLen; omega)
      have HRE := Lib.hid hre
      obtain ⟨va, vc, rfl⟩ := hre.slice
      clear hdat hre
      go_wp2_with fail
      refine (rend_any HI.out.1.rd).mono ?_
      rintro x wE ⟨rfl, rfl⟩
      by_cases hz : (rdEvs R1 i).2 = some []
      · have he : endS (rdEvs R1 i).2 = true := by rw [hz]; rfl
        have HT1 : Hid (okH s.data.toList = true) := by show _ = _; rw [HOK.out, HI.out.2, hz]; rfl
        rw [he]
        clear he hz
        go_wp2
        go_ret2
        exact ⟨va, vc, (rdEvs R1 i).1, 0, rfl, HRE.out, .inl ⟨HT1.out, by rw [HRH.out], rfl⟩, HDT.out, HI.out.1.below⟩
      · have he : endS (rdEvs R1 i).2 = false := by unfold endS; rw [beq_eq_false_iff_ne]; exact hz
        have HT1 : Hid (okH s.data.toList = false) := by
          show _ = _
          rw [HOK.out, show ((rdEvs R1 i).2 == some []) = false from he, Bool.and_false]
        rw [he]
        clear he hz
        go_wp2
        go_ret2
        exact ⟨none, 0, [], 60, rfl, ReadE.nil _, .inr ⟨HT1.out, rfl, rfl⟩, fun x hx => (by cases hx), HI.out.1.below⟩
end Go.Proofs.Ythliofijioghkaa

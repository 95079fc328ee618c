/- Layer 13: the contracts of the program's Pack, Unpack; eventK. -/
import Derived.Test.YthliofijioghkaaW13d
import Derived.Test.YthliofijioghkaaW13e
import Derived.Test.YthliofijioghkaaI23
import Derived.Test.YthliofijioghkaaR13h
import Derived.Test.YthliofijioghkaaK13
namespace Go.Proofs.Ythliofijioghkaa
open Go.RowKit
set_option linter.unusedVariables false

set_option maxHeartbeats 4000000 in
set_option maxRecDepth 100000 in
theorem pack13_any {w : World} {a : Option Addr} {c : Nat} (l : List EvS) (h : ReadE w (.slice a l.length c) l) (hz : ∀ x ∈ l, x.data.size ≤ 140737488351232) :
    Calls Try.prog 18 #[.slice a l.length c] w fun x w' => x = .returned (.tuple #[.string (packS l), .int .i64 (packE l : Nat)]) ∧ Below w.heap.size w w' := by
  have hml : l.length ≤ 9223372036854775807 := by have := h.1; unfold maxLen at this; omega
  have H := Lib.hid h
  have HZ : Hid (∀ x ∈ l, x.data.size ≤ 140737488351232) := hz
  clear h hz
  by_cases h5 : 500 < l.length
  · have hS : packS l = bx [] := if_neg (by unfold histB; simp; omega)
    have hE : packE l = 2 := if_pos h5
    rw [hS, hE]
    have h5i : (500 : Int) < (l.length : Int) := by omega
    go_enter Try.func18, Try.ntmps18
    go_wp2
    go_ret2
    exact ⟨rfl, Below.refl _ _⟩
  · have h5i : ¬ (500 : Int) < (l.length : Int) := by omega
    have HG : Hid (l.all evB = true → packS l = bx (encHist l) ∧ packE l = 0) := fun hb =>
      ⟨if_pos (by unfold histB; rw [hb]; simp; omega), by unfold packE; rw [if_neg h5, if_pos hb]⟩
    have HN : Hid (l.all evB = false → packS l = bx [] ∧ packE l = 120) := fun hb =>
      ⟨if_neg (by unfold histB; rw [hb]; simp), by unfold packE; rw [if_neg h5, hb]; rfl⟩
    obtain ⟨PS, hPS⟩ : ∃ b, packS l = b := ⟨_, rfl⟩
    obtain ⟨PE, hPE⟩ : ∃ b, packE l = b := ⟨_, rfl⟩
    rw [hPS, hPE] at HG HN ⊢
    clear hPS hPE
    have hI := fun w => number13_any l.length (by omega) w
    have zL : (bx (putL l.length)).size ≤ 10 := by rw [bx_size]; exact putL_len10 (by show _ < _; omega)
    have dL : (bx (putL l.length)).data.toList = histTo l 0 := by simp [histTo, encEvs, bx]
    have HSZ : Hid (∀ i, (l.take i).all evB = true → (histTo l i).length ≤ 700000) := fun i hb => histTo_len (by omega) hb
    have HNE : Hid (∀ i (h : i < l.length), histTo l (i + 1) = histTo l i ++ (bx (textL (bx (encEv l[i])))).data.toList) := fun i h => by rw [textL_bx, histTo_next h]; simp [bx]
    have HEE : Hid (histTo l l.length = encHist l) := histTo_all l
    generalize bx (putL l.length) = TL at *
    have hb0 := BuildT.new w
    have HB0 := Lib.hid hb0
    have Hb0 : Hid (Below w.heap.size w (w.alloc (.cells #[.pointer none, .slice none 0 0] 69))) := (Below.refl _ w).alloc (Nat.le_refl _) _
    clear hb0
    go_enter Try.func18, Try.ntmps18
    go_wp2_with fail
    refine (hI _).mono ?_
    rintro x w1 ⟨rfl, b1⟩
    have T1 := Lib.hid (HB0.out.kept2 b1)
    have B1 := Lib.hid (Hb0.out.trans (b1.mono Hb0.out.size))
    clear b1 hI HB0 Hb0
    go_wp2_with fail
    refine (bwrite_any T1.out TL (by simp; omega) B1.out.size).mono ?_
    rintro x w2 ⟨rfl, t2, b2, -⟩
    rw [List.nil_append, dL] at t2
    have T2 := Lib.hid t2
    have B2 := Lib.hid (B1.out.trans b2)
    clear t2 b2 T1 B1 dL zL
    go_wp2
    go_loopw [18] (fun iv wr => ∃ i : Nat, i ≤ l.length ∧ iv = .int .i64 (i : Int) ∧ Hid (BuildT wr w.heap.size w.heap.size (histTo l i) ∧ Below w.heap.size w wr ∧ (l.take i).all evB = true)) (fun iv _ => l.length - (intOf iv).toNat)
    case atStart => exact ⟨0, Nat.zero_le _, rfl, T2.out, B2.out, rfl⟩
    case round =>
      clear T2 B2
      obtain ⟨i, hi, rfl, HI⟩ := hrel
      by_cases hlt : i < l.length
      · have hi1 : (0 : Int) ≤ (i : Int) := Int.natCast_nonneg _
        have hi2 : (i : Int) < (l.length : Int) := by omega
        obtain ⟨b, o, rfl, q0, q1, q2, q3, q4, q5, q6, q7, -⟩ := (H.out.below HI.out.2.1).at hlt
        have HT := Lib.hid (all_ev hlt)
        have HNO := Lib.hid (fun hb => all_not_ev hlt hb)
        have HN1 := Lib.hid (HNE.out i hlt)
        have hds := HZ.out _ (List.getElem_mem hlt)
        have hmes : l.length - (intOf (.int .i64 ((i : Int) + 1))).toNat < l.length - (intOf (.int .i64 (i : Int))).toNat := by simp [intOf]; omega
        generalize l[i] = e at *
        obtain ⟨wx, hwx⟩ : ∃ wx, wr.alloc (.cells #[.int .i64 e.id, .int .i64 e.kind, .int .i64 e.tick, .int .i64 e.ref, .int .i64 e.step, .int .i64 e.tryN, .bool e.undo, .string e.data] 23) = wx := ⟨_, rfl⟩
        have hb1 : Below wr.heap.size wr wx := by rw [← hwx]; exact (Below.refl _ _).alloc (Nat.le_refl _) _
        have hn1 : wx.heap[wr.heap.size]? = some (.cells #[.int .i64 e.id, .int .i64 e.kind, .int .i64 e.tick, .int .i64 e.ref, .int .i64 e.step, .int .i64 e.tryN, .bool e.undo, .string e.data] 23 (0, 0)) := by rw [← hwx]; exact heap_alloc_new _ _
        have d0 := (block_cell hn1 0).trans rfl
        have d1 := (block_cell hn1 1).trans rfl
        have d2 := (block_cell hn1 2).trans rfl
        have d3 := (block_cell hn1 3).trans rfl
        have d4 := (block_cell hn1 4).trans rfl
        have d5 := (block_cell hn1 5).trans rfl
        have d6 := (block_cell hn1 6).trans rfl
        have d7 := (block_cell hn1 7).trans rfl
        have TX1 := Lib.hid (HI.out.1.kept2 hb1)
        have BX1 := Lib.hid (HI.out.2.1.trans (hb1.mono HI.out.2.1.size))
        have henc := encode13_any e hds wx
        clear hb1 hn1
        by_cases hp : evB e = true
        · have hE : encEE e = 0 := if_pos hp
          have hS : encES e = bx (encEv e) := if_pos hp
          rw [hE, hS] at henc
          have HA : Hid ((l.take (i + 1)).all evB = true) := by show _ = _; rw [HT.out, HI.out.2.2, hp]; rfl
          have z1 := HSZ.out (i + 1) HA.out
          have z2 := encEv_len hp
          have HTX := Lib.hid (fun w => text_bx (bx (encEv e)) (by rw [bx_size]; omega) w)
          rw [HN1.out, List.length_append] at z1
          unfold EvS.val' at henc
          have HEN := Lib.hid henc
          clear henc hE hS hp z2 HNO hds
          generalize bx (textL (bx (encEv e))) = TX at *
          generalize bx (encEv e) = BK at *
          have z3 : TX.data.toList.length = TX.size := by simp
          obtain ⟨x0, x1, x2, x3, x4, x5, x6, x7⟩ := e
          go_wp2_with fail
          refine HEN.out.mono ?_
          rintro x w2 ⟨rfl, b2⟩
          have T2 := Lib.hid (TX1.out.kept2 b2)
          have B2 := Lib.hid (BX1.out.trans (b2.mono BX1.out.size))
          clear b2 q0 q1 q2 q3 q4 q5 q6 q7 d0 d1 d2 d3 d4 d5 d6 d7 HEN TX1 BX1
          go_wp2_with fail
          refine (HTX.out _).mono ?_
          rintro x w3 ⟨rfl, b3⟩
          have T3 := Lib.hid (T2.out.kept2 b3)
          have B3 := Lib.hid (B2.out.trans (b3.mono B2.out.size))
          clear b3 T2 B2
          go_wp2_with fail
          refine (bwrite_any T3.out TX (by omega) B3.out.size).mono ?_
          rintro x w4 ⟨rfl, t4, b4, -⟩
          have T4 := Lib.hid t4
          have B4 := Lib.hid (B3.out.trans b4)
          clear t4 b4 T3 B3
          go_wp2
          go_roundw
          case rel => exact ⟨i + 1, by omega, by go_num, by rw [HN1.out]; exact T4.out, B4.out, HA.out⟩
          case measure => exact hmes
        · rw [Bool.not_eq_true] at hp
          have hE : encEE e = 120 := if_neg (by rw [hp]; decide)
          rw [hE] at henc
          obtain ⟨r1, r2⟩ := HN.out (HNO.out hp)
          have HR1 := Lib.hid r1
          have HR2 := Lib.hid r2
          clear r1 r2
          unfold EvS.val' at henc
          have HEN := Lib.hid henc
          clear henc hE hp hds
          generalize encES e = BK at *
          obtain ⟨x0, x1, x2, x3, x4, x5, x6, x7⟩ := e
          go_wp2_with fail
          refine HEN.out.mono ?_
          rintro x w2 ⟨rfl, b2⟩
          have B2 := Lib.hid (BX1.out.trans (b2.mono BX1.out.size))
          clear b2 q0 q1 q2 q3 q4 q5 q6 q7 d0 d1 d2 d3 d4 d5 d6 d7 HEN TX1 BX1
          go_wp2
          go_ret2
          exact ⟨by rw [HR1.out, HR2.out]; rfl, B2.out⟩
      · obtain rfl : i = l.length := by omega
        have HA : Hid (l.all evB = true) := by have := HI.out.2.2; rwa [List.take_length] at this
        obtain ⟨r1, r2⟩ := HG.out HA.out
        have HR1 := Lib.hid r1
        have HR2 := Lib.hid r2
        clear r1 r2
        have hbt := HI.out.1
        rw [HEE.out] at hbt
        have HBT := Lib.hid hbt
        clear hbt
        go_wp2_with fail
        refine (bstring_any HBT.out HI.out.2.1.size).mono ?_
        rintro x w5 ⟨rfl, b5, -⟩
        have B5 := Lib.hid (HI.out.2.1.trans b5)
        clear b5
        go_wp2
        go_ret2
        exact ⟨by rw [HR1.out, HR2.out]; rfl, B5.out⟩

set_option maxHeartbeats 4000000 in
set_option maxRecDepth 100000 in
theorem unpack13_any (s : ByteArray) (hs : s.size ≤ 140737488351232) (w : World) :
    Calls Try.prog 15 #[.string s] w fun x w' => ∃ a c l E, x = .returned (.tuple #[.slice a (List.length l) c, .int .i64 (E : Nat)]) ∧ ReadE w' (.slice a l.length c) l ∧ HistEnd s.data.toList l E ∧ Below w.heap.size w w' := by
  obtain ⟨i0, hi0, hz0, hz1, hz2⟩ := info_parts infoEv
  obtain ⟨n, hn⟩ : ∃ n, (intS 500 (some s.data.toList)).1 = n := ⟨_, rfl⟩
  obtain ⟨R1, hR1⟩ : ∃ R, (intS 500 (some s.data.toList)).2 = R := ⟨_, rfl⟩
  have hn5 : n ≤ 500 := by rw [← hn]; exact numS_le 500 (some s.data.toList)
  have hM1 : Most s.size R1 := by
    rw [← hR1]
    have : Most s.size (some s.data.toList) := fun r hr => by injection hr with hr; rw [← hr]; simp
    exact this.int _
  have HM := Lib.hid hM1
  have HOK : Hid (okH s.data.toList = (okTs R1 n && (rdEvs R1 n).2 == some [])) := by
    show (okTs (intS 500 (some s.data.toList)).2 (intS 500 (some s.data.toList)).1 && (rdEvs (intS 500 (some s.data.toList)).2 (intS 500 (some s.data.toList)).1).2 == some []) = _
    rw [hR1, hn]
  have HRH : Hid (rdHist s.data.toList = rdEvs R1 n) := by
    show rdEvs (intS 500 (some s.data.toList)).2 (intS 500 (some s.data.toList)).1 = _
    rw [hR1, hn]
  have HRD := Lib.hid (read_any s hs w)
  clear hM1
  go_enter Try.func15, Try.ntmps15
  go_wp2_with fail
  refine HRD.out.mono ?_
  rintro x w1 ⟨rfl, rd1, b1⟩
  have HD0 : Hid (HiAt w w1 (some s.data.toList) (.slice none 0 0) []) := ⟨rd1, World.ownsRow_nil _ _ _ _, fun k hk => by simp [Value.ownBlock] at hk, b1⟩
  clear HRD rd1 b1
  go_wp2_with fail
  refine (int_any HD0.out.rd 500 (by omega)).mono ?_
  rintro x wa ⟨rfl, hla⟩
  rw [hR1] at hla
  rw [hn]
  have HDa := Lib.hid (HD0.out.call hla)
  clear hla HD0 hR1 hn
  go_wp2
  go_loopw [5, 12] (fun lv iv wr => ∃ i : Nat, i ≤ n ∧ iv = .int .i64 (i : Int) ∧ Hid (HiAt w wr (rdEvs R1 i).2 lv (rdEvs R1 i).1 ∧ okTs R1 i = true)) (fun _ iv _ => n - (intOf iv).toNat)
  case atStart => exact ⟨0, Nat.zero_le _, rfl, HDa.out, rfl⟩
  case round =>
    clear HDa
    obtain ⟨i, hi, rfl, HI⟩ := hrel
    by_cases hlt : i < n
    · have HLEN : Hid ((rdEvs R1 i).1.length = i) := rdEvs_len R1 i
      have HNX : Hid (rdEvs R1 (i + 1) = ((rdEvs R1 i).1 ++ [(rdEv (some (textS (rdEvs R1 i).2).1)).1], (textS (rdEvs R1 i).2).2)) := rfl
      have HOT : Hid (okTs R1 (i + 1) = (okTs R1 i && okE (textS (rdEvs R1 i).2).1)) := rfl
      have HNO : Hid (okTs R1 (i + 1) = false → okH s.data.toList = false) := fun h => by
        rw [HOK.out]
        cases h2 : okTs R1 n with
        | false => rfl
        | true => rw [okTs_mono (by omega) h2] at h; cases h
      have hmes : n - (intOf (.int .i64 ((i : Int) + 1))).toNat < n - (intOf (.int .i64 (i : Int))).toNat := by simp [intOf]; omega
      have hts := (HM.out.evs i).text.2
      obtain ⟨v, hv⟩ : ∃ v, u5 = v := ⟨_, rfl⟩
      subst hv
      generalize (rdEvs R1 i).1 = L at *
      generalize (rdEvs R1 i).2 = R at *
      obtain ⟨T, hT⟩ : ∃ T, (textS R).1 = T := ⟨_, rfl⟩
      obtain ⟨Q, hQ⟩ : ∃ Q, (textS R).2 = Q := ⟨_, rfl⟩
      rw [hT] at HNX HOT hts
      rw [hQ] at HNX
      have htk : tv T = .string ⟨T.toArray⟩ := rfl
      have hBs : (⟨T.toArray⟩ : ByteArray).size ≤ 140737488351232 := by show T.toArray.size ≤ _; simp; omega
      have hdc := fun w => decode13_any ⟨T.toArray⟩ hBs w
      have hBl : (⟨T.toArray⟩ : ByteArray).data.toList = T := by simp
      rw [hBl] at hdc
      generalize (⟨T.toArray⟩ : ByteArray) = B at *
      clear hBs hBl hts
      go_wp2_with fail
      refine (rtextv_any HI.out.1.rd).mono ?_
      rintro x wA ⟨rfl, hA⟩
      rw [hT, htk]
      rw [hQ] at hA
      have HA := Lib.hid (HI.out.1.call hA)
      clear hA hT hQ htk
      go_wp2_with fail
      refine (hdc _).mono ?_
      rintro x wB ⟨e, E, rfl, hend, bB⟩
      have HB := Lib.hid (HA.out.later bB)
      have HEND := Lib.hid hend
      clear bB hend hdc HA
      obtain ⟨wC, hwC⟩ : ∃ wC, wB.alloc (.cells e.arr 23) = wC := ⟨_, rfl⟩
      have hC : HiAt w wC Q u5 L := by rw [← hwC]; exact HB.out.later ((Below.refl _ _).alloc (Nat.le_refl _) _)
      have hxC : wC.heap[wB.heap.size]? = some (.cells e.arr 23 (0, 0)) := by rw [← hwC]; exact heap_alloc_new _ _
      have HC := Lib.hid hC
      have hlw : w.heap.size < wB.heap.size := Nat.lt_of_lt_of_le HB.out.rd.lt (Nat.le_refl _)
      have hL1 := HLEN.out
      unfold EvS.val'
      obtain ⟨x0, x1, x2, x3, x4, x5, x6, x7⟩ := e
      unfold EvS.arr at hwC hxC
      simp only at hwC hxC
      have q0 : wC.cell? ⟨wB.heap.size, 0, none⟩ = some (.int .i64 x0) := by rw [block_cell hxC]; rfl
      have q1 : wC.cell? ⟨wB.heap.size, 1, none⟩ = some (.int .i64 x1) := by rw [block_cell hxC]; rfl
      have q2 : wC.cell? ⟨wB.heap.size, 2, none⟩ = some (.int .i64 x2) := by rw [block_cell hxC]; rfl
      have q3 : wC.cell? ⟨wB.heap.size, 3, none⟩ = some (.int .i64 x3) := by rw [block_cell hxC]; rfl
      have q4 : wC.cell? ⟨wB.heap.size, 4, none⟩ = some (.int .i64 x4) := by rw [block_cell hxC]; rfl
      have q5 : wC.cell? ⟨wB.heap.size, 5, none⟩ = some (.int .i64 x5) := by rw [block_cell hxC]; rfl
      have q6 : wC.cell? ⟨wB.heap.size, 6, none⟩ = some (.bool x6) := by rw [block_cell hxC]; rfl
      have q7 : wC.cell? ⟨wB.heap.size, 7, none⟩ = some (.string x7) := by rw [block_cell hxC]; rfl
      clear hC hxC
      rcases HEND.out with ⟨hok, hev, rfl⟩ | ⟨hok, hev, rfl⟩
      · have HT1 : Hid (okTs R1 (i + 1) = true) := by show _ = _; rw [HOT.out, HI.out.2, hok]; rfl
        have HE1 := Lib.hid hev
        have hsrc := src_new (sz := 8) wC #[.int .i64 x0, .int .i64 x1, .int .i64 x2, .int .i64 x3, .int .i64 x4, .int .i64 x5, .bool x6, .string x7] 23 rfl (by simp [Value.oneCell'])
        have hrow := HC.out.row.alloc (.cells #[.int .i64 x0, .int .i64 x1, .int .i64 x2, .int .i64 x3, .int .i64 x4, .int .i64 x5, .bool x6, .string x7] 23)
        clear hok hev HI HB
        go_wp2_with (at_builtin; go_loud (refine wpList_app _ rfl (.tmp 23) (.tmp 25) rfl Try.underlying36 hi0 hz0 hz1 hz2 rfl (by decide) rfl hrow rfl hsrc ?c1_a ?c2_a ?_))
        case c1_a => omega
        case c2_a => unfold maxLen; omega
        intro v' w4 hown hgrow hwh
        have HD4 := Lib.hid (HiAt.add (x := ⟨x0, x1, x2, x3, x4, x5, x6, x7⟩) (HC.out.later ((Below.refl _ _).alloc (Nat.le_refl _) _)) hgrow (by rw [hL1]; exact hown) (fun k hk => by rw [World.size_alloc]; exact hwh k hk))
        have HX : Hid ((rdEvs R1 (i + 1)).1 = L ++ [⟨x0, x1, x2, x3, x4, x5, x6, x7⟩] ∧ (rdEvs R1 (i + 1)).2 = Q) := by constructor <;> rw [HNX.out]; rw [HE1.out]
        clear hown hgrow hwh hsrc hrow q0 q1 q2 q3 q4 q5 q6 q7
        go_wp2
        go_roundw
        case rel => exact ⟨i + 1, by omega, by go_num, by rw [HX.out.1, HX.out.2]; exact HD4.out, HT1.out⟩
        case measure => exact hmes
      · have HT1 : Hid (okH s.data.toList = false) := HNO.out (by rw [HOT.out, hok, Bool.and_false])
        have hbl := HC.out.below
        have HBL := Lib.hid hbl
        clear hok hev HI HB hbl
        go_wp2
        go_ret2
        exact ⟨none, 0, [], 60, rfl, ReadE.nil _, .inr ⟨HT1.out, rfl, rfl⟩, HBL.out⟩
    · obtain rfl : i = n := by omega
      have hdat := rdEvs_data HM.out i
      have HDT := Lib.hid hdat
      have hre : ReadE wr u5 (rdEvs R1 i).1 := ReadE.own HI.out.1.row (fun x hx => by have := hdat x hx; unfold maxLen; omega)
      have HRE := Lib.hid hre
      obtain ⟨va, vc, rfl⟩ := hre.slice
      clear hdat hre
      go_wp2_with fail
      refine (end_any HI.out.1.rd).mono ?_
      rintro x wE ⟨rfl, rfl⟩
      by_cases hz : (rdEvs R1 i).2 = some []
      · have he : endS (rdEvs R1 i).2 = true := by rw [hz]; rfl
        have HT1 : Hid (okH s.data.toList = true) := by show _ = _; rw [HOK.out, HI.out.2, hz]; rfl
        rw [he]
        clear he hz
        go_wp2
        go_ret2
        exact ⟨va, vc, (rdEvs R1 i).1, 0, rfl, HRE.out, .inl ⟨HT1.out, by rw [HRH.out], rfl⟩, HI.out.1.below⟩
      · have he : endS (rdEvs R1 i).2 = false := by unfold endS; rw [beq_eq_false_iff_ne]; exact hz
        have HT1 : Hid (okH s.data.toList = false) := by
          show _ = _
          rw [HOK.out, show ((rdEvs R1 i).2 == some []) = false from he, Bool.and_false]
        rw [he]
        clear he hz
        go_wp2
        go_ret2
        exact ⟨none, 0, [], 60, rfl, ReadE.nil _, .inr ⟨HT1.out, rfl, rfl⟩, HI.out.1.below⟩

theorem eventK : EventK where
  check := fun e w h => check13_any e h w
  encode := fun e w h => encode13_any e h w
  decode := fun s w hs => decode13_any s hs w
  pack := fun l h hz => pack13_any l h hz
  unpack := fun s w hs => unpack13_any s hs w
end Go.Proofs.Ythliofijioghkaa

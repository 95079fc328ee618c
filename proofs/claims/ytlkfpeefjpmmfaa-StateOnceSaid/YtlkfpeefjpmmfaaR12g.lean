/- Layer 12: the contract of the reference's Decode. -/
import Derived.Test.YtlkfpeefjpmmfaaR12f
import Derived.Outline
namespace Go.Proofs.Ytlkfpeefjpmmfaa
open Go.RowKit
set_option linter.unusedVariables false

theorem rdStep_one {R : Option (List UInt8)} (h : (intS 9 R).1 = 1) : rdStep R = (⟨1, ⟨(textS (intS 9 R).2).1.toArray⟩, ⟨(textS (intS 9 (textS (intS 9 R).2).2).2).1.toArray⟩, ((intS 9 (textS (intS 9 R).2).2).1 : Int), ((intS 9 (textS (intS 9 (textS (intS 9 R).2).2).2).2).1 : Int), 0⟩, (intS 9 (textS (intS 9 (textS (intS 9 R).2).2).2).2).2) := by
  unfold rdStep
  simp only [h, if_true]
  rfl
theorem rdStep_two {R : Option (List UInt8)} (h : (intS 9 R).1 = 2) : rdStep R = (⟨2, ⟨#[]⟩, ⟨#[]⟩, 0, 0, ((intS 9999 (intS 9 R).2).1 : Int)⟩, (intS 9999 (intS 9 R).2).2) := by
  unfold rdStep
  simp only [h, show ¬ (2 : Nat) = 1 by omega, if_true, if_false]
  rfl
theorem rdStep_else {R : Option (List UInt8)} (h1 : ¬ (intS 9 R).1 = 1) (h2 : ¬ (intS 9 R).1 = 2) : rdStep R = (⟨((intS 9 R).1 : Int), ⟨(textS (intS 9 R).2).1.toArray⟩, ⟨#[]⟩, 0, 0, 0⟩, (textS (intS 9 R).2).2) := by
  unfold rdStep
  simp only [h1, h2, if_false]
theorem toList_iff12b (a b : ByteArray) : a.toList = b.toList ↔ a = b := by
  refine ⟨fun h => ?_, fun h => by rw [h]⟩
  rw [Lib.toList_data, Lib.toList_data] at h
  obtain ⟨⟨x⟩⟩ := a
  obtain ⟨⟨y⟩⟩ := b
  have h : x = y := h
  rw [h]
/-- How Decode ends. -/
def DecEnd (s : ByteArray) (p : ProgS) (E : Nat) : Prop := (okB s.data.toList = true ∧ p = (rdProg s.data.toList).1 ∧ E = 0) ∨ (okB s.data.toList = false ∧ p = ⟨[], 0⟩ ∧ E = 60)

set_option maxHeartbeats 8000000 in
set_option maxRecDepth 100000 in
theorem rdecode_any (s : ByteArray) (hs : s.size ≤ 140737488351232) (w : World) :
    Calls Try.prog 45 #[.string s] w fun e w' => ∃ a c p E, e = .returned (.tuple #[p.val' a c, .int .i64 (E : Nat)]) ∧ ReadG w' (.slice a p.steps.length c) p.steps ∧ DecEnd s p E ∧ Below w.heap.size w w' := by
  obtain ⟨i0, hi0, hz0, hz1, hz2⟩ := info_parts infoStep
  obtain ⟨lim, hlim⟩ : ∃ n, (intS 1073741824 (some s.data.toList)).1 = n := ⟨_, rfl⟩
  obtain ⟨R1, hR1⟩ : ∃ R, (intS 1073741824 (some s.data.toList)).2 = R := ⟨_, rfl⟩
  obtain ⟨n, hn⟩ : ∃ n, (intS 16 R1).1 = n := ⟨_, rfl⟩
  obtain ⟨R2, hR2⟩ : ∃ R, (intS 16 R1).2 = R := ⟨_, rfl⟩
  have hn16 : n ≤ 16 := by rw [← hn]; exact numS_le 16 R1
  have hM : Most s.size R2 := by
    rw [← hR2, ← hR1]
    have : Most s.size (some s.data.toList) := fun r hr => by injection hr with hr; rw [← hr]; simp
    exact (this.int _).int _
  have HRP : Hid (rdProg s.data.toList = (⟨(rdSteps R2 n).1, (lim : Int)⟩, (rdSteps R2 n).2)) := by
    show _ = _
    unfold rdProg
    simp only [hlim, hR1, hn, hR2]
  have hFit := hM.steps
  obtain ⟨w1, hw1⟩ : ∃ w1, w.alloc (.cells #[.slice none 0 0, .int .i64 0] 26) = w1 := ⟨_, rfl⟩
  obtain ⟨w2, hw2⟩ : ∃ w2, w1.alloc (.cells #[.string s, .bool false] 109) = w2 := ⟨_, rfl⟩
  obtain ⟨w3, hw3⟩ : ∃ w3, w2.alloc (.cells #[.slice none 0 0, .int .i64 0] 26) = w3 := ⟨_, rfl⟩
  have hs1 : w1.heap.size = w.heap.size + 1 := by rw [← hw1]; simp
  have hs2 : w2.heap.size = w.heap.size + 2 := by rw [← hw2]; simp [hs1]
  have b1 : Below w.heap.size w w1 := by rw [← hw1]; exact (Below.refl _ _).alloc (Nat.le_refl _) _
  have b2 : Below w1.heap.size w1 w2 := by rw [← hw2]; exact (Below.refl _ _).alloc (Nat.le_refl _) _
  have b3 : Below w2.heap.size w2 w3 := by rw [← hw3]; exact (Below.refl _ _).alloc (Nat.le_refl _) _
  have hb3 : Below w.heap.size w w3 := (b1.trans (b2.mono b1.size)).trans (b3.mono (by omega))
  have hq : w3.heap[w.heap.size]? = some (.cells #[.slice none 0 0, .int .i64 0] 26 (0, 0)) := by
    rw [b3.block _ (by omega), b2.block _ (by omega), ← hw1]; exact heap_alloc_new _ _
  have hr : w3.heap[w.heap.size + 1]? = some (.cells #[.string s, .bool false] 109 (0, 0)) := by
    rw [b3.block _ (by omega), ← hw2, ← hs1]; exact heap_alloc_new _ _
  have hpg : w3.heap[w.heap.size + 2]? = some (.cells #[.slice none 0 0, .int .i64 0] 26 (0, 0)) := by
    rw [← hw3, ← hs2]; exact heap_alloc_new _ _
  have hrd : RDE w3 (w.heap.size + 1) (some s.data.toList) := ⟨s, rfl, by rw [block_cell hr]; rfl, by rw [block_cell hr]; rfl, block_free hr 0, block_free hr 1, hs⟩
  have hD0 : DecAt w w3 (w.heap.size + 1) (w.heap.size + 2) (some s.data.toList) (.slice none 0 0) [] 0 :=
    ⟨hrd, hpg, World.ownsRow_nil _ _ _ _, fun k hk => by simp [Value.ownBlock] at hk, ⟨by omega, by omega⟩, hb3, hq⟩
  have HD0 := Lib.hid hD0
  have hw12 : Hid (w1.heap.size = w.heap.size + 1 ∧ w2.heap.size = w.heap.size + 2) := ⟨hs1, hs2⟩
  clear b1 b2 b3 hb3 hq hr hpg hrd hD0
  go_enter Try.func45, Try.ntmps45
  go_wp2_with fail
  refine (rint2_any HD0.out.rd 1073741824 (by omega) (by omega)).mono ?_
  rintro e wa ⟨rfl, hla⟩
  rw [hR1] at hla
  rw [hlim]
  have HDa := Lib.hid (HD0.out.call hla)
  have pc1 : wa.cell? ⟨w.heap.size + 2, 1, none⟩ = some (.int .i64 0) := by rw [block_cell HDa.out.pg]; rfl
  have pf1 : wa.frozen? ⟨w.heap.size + 2, 1, none⟩ = false := block_free HDa.out.pg 1
  have HDb := Lib.hid (HDa.out.setLim (lim : Int))
  clear hla HD0
  go_wp2_with fail
  refine (rint2_any HDb.out.rd 16 (by omega) (by omega)).mono ?_
  rintro e wb ⟨rfl, hlb⟩
  rw [hR2] at hlb
  rw [hn]
  have HDc := Lib.hid (HDb.out.call hlb)
  clear hlb pc1 pf1
  go_wp2
  clear HDa HDb
  generalize w.heap.size + 2 = pb at *
  generalize w.heap.size + 1 = rb at *
  go_loopw [7] (fun iv wr => ∃ (i : Nat) (v : Value), i ≤ n ∧ iv = .int .i64 (i : Int) ∧ Hid (DecAt w wr rb pb (rdSteps R2 i).2 v (rdSteps R2 i).1 (lim : Int))) (fun iv _ => n - (intOf iv).toNat)
  case atStart => exact ⟨0, _, Nat.zero_le _, rfl, HDc.out⟩
  case round =>
    clear HDc
    obtain ⟨i, v, hi, rfl, HI⟩ := hrel
    by_cases hlt : i < n
    · have HNX : Hid (rdSteps R2 (i + 1) = ((rdSteps R2 i).1 ++ [(rdStep (rdSteps R2 i).2).1], (rdStep (rdSteps R2 i).2).2)) := rfl
      have HLEN : Hid ((rdSteps R2 i).1.length = i) := rdSteps_len R2 i
      have hmes : n - (intOf (.int .i64 ((i : Int) + 1))).toNat < n - (intOf (.int .i64 (i : Int))).toNat := by simp [intOf]; omega
      generalize (rdSteps R2 i).1 = L at *
      generalize (rdSteps R2 i).2 = R at *
      obtain ⟨xb, hxb⟩ : ∃ k, wr.heap.size = k := ⟨_, rfl⟩
      obtain ⟨wx, hwx⟩ : ∃ wx, wr.alloc (.cells #[.int .i64 0, .string ⟨#[]⟩, .string ⟨#[]⟩, .int .i64 0, .int .i64 0, .int .i64 0] 53) = wx := ⟨_, rfl⟩
      have HX0 : Hid (DecX w wx rb pb xb R v L (lim : Int) #[.int .i64 0, .string ⟨#[]⟩, .string ⟨#[]⟩, .int .i64 0, .int .i64 0, .int .i64 0]) := by rw [← hwx, ← hxb]; exact HI.out.box _
      obtain ⟨KK, hKK⟩ : ∃ K, (intS 9 R).1 = K := ⟨_, rfl⟩
      obtain ⟨Q1, hQ1⟩ : ∃ Q, (intS 9 R).2 = Q := ⟨_, rfl⟩
      have HK1 : Hid ((intS 9 R).1 = KK ∧ (intS 9 R).2 = Q1) := ⟨hKK, hQ1⟩
      go_wp2_with fail
      refine (rint2_any HX0.out.at'.rd 9 (by omega) (by omega)).mono ?_
      rintro e wA ⟨rfl, hA⟩
      rw [hQ1] at hA
      rw [hKK]
      have HX1 := Lib.hid (HX0.out.call hA)
      clear hA hQ1 hKK HX0 HI hwx hxb
      have a0 : wA.cell? ⟨xb, 0, none⟩ = some (.int .i64 0) := HX1.out.cell 0
      have a1 := HX1.out.free 0
      have HX2 : Hid (DecX w (wA.setCell ⟨xb, 0, none⟩ (.int .i64 (KK : Int))) rb pb xb Q1 v L (lim : Int) #[.int .i64 (KK : Int), .string ⟨#[]⟩, .string ⟨#[]⟩, .int .i64 0, .int .i64 0, .int .i64 0]) := HX1.out.store 0 _
      by_cases hk1 : KK = 1
      · subst hk1
        have HRS := Lib.hid (rdStep_one HK1.out.1)
        rw [HK1.out.2] at HRS
        clear HX1
        have HS0 : Hid (DecX w (wA.setCell ⟨xb, 0, none⟩ (.int .i64 (1))) rb pb xb Q1 v L (lim : Int) #[.int .i64 (1), .string ⟨#[]⟩, .string ⟨#[]⟩, .int .i64 0, .int .i64 0, .int .i64 0]) := HX2
        have k0 : (wA.setCell ⟨xb, 0, none⟩ (.int .i64 (1))).cell? ⟨xb, 0, none⟩ = some (.int .i64 (1)) := HS0.out.cell 0
        clear HX2
        obtain ⟨N1, hN1⟩ : ∃ N, (⟨(textS Q1).1.toArray⟩ : ByteArray) = N := ⟨_, rfl⟩
        obtain ⟨P0, hP0⟩ : ∃ Q, (textS Q1).2 = Q := ⟨_, rfl⟩
        rw [hN1, hP0] at HRS
        have htN1 : tv (textS Q1).1 = .string N1 := congrArg Value.string hN1
        have HTN1 := Lib.hid htN1
        have HPN1 := Lib.hid hP0
        clear hN1 hP0 htN1
        go_wp2_with fail
        refine (rtext2_any HS0.out.at'.rd).mono ?_
        rintro e wB0 ⟨rfl, hb0⟩
        rw [HTN1.out]
        rw [HPN1.out] at hb0
        have HC0 := Lib.hid (HS0.out.call hb0)
        clear hb0 k0 a0 a1
        have k0 : wB0.cell? ⟨xb, 1, none⟩ = some (.string ⟨#[]⟩) := HC0.out.cell 1
        have k1 := HC0.out.free 1
        have kk : wB0.cell? ⟨xb, 0, none⟩ = some (.int .i64 (1)) := HC0.out.cell 0
        have HS1 : Hid (DecX w (wB0.setCell ⟨xb, 1, none⟩ (.string N1)) rb pb xb P0 v L (lim : Int) #[.int .i64 (1), .string N1, .string ⟨#[]⟩, .int .i64 0, .int .i64 0, .int .i64 0]) := HC0.out.store 1 _
        have kz : (wB0.setCell ⟨xb, 1, none⟩ (.string N1)).cell? ⟨xb, 0, none⟩ = some (.int .i64 (1)) := HS1.out.cell 0
        have k2 := kz
        obtain ⟨t1, ht1⟩ : ∃ N, (intS 9 P0).1 = N := ⟨_, rfl⟩
        obtain ⟨P1, hP1⟩ : ∃ Q, (intS 9 P0).2 = Q := ⟨_, rfl⟩
        rw [ht1, hP1] at HRS
        have HTt1 := Lib.hid ht1
        have HPt1 := Lib.hid hP1
        clear ht1 hP1
        go_wp2_with fail
        refine (rint2_any HS1.out.at'.rd 9 (by omega) (by omega)).mono ?_
        rintro e wB1 ⟨rfl, hb1⟩
        rw [HTt1.out]
        rw [HPt1.out] at hb1
        have HC1 := Lib.hid (HS1.out.call hb1)
        clear hb1 k0
        have k0 : wB1.cell? ⟨xb, 3, none⟩ = some (.int .i64 0) := HC1.out.cell 3
        have k1 := HC1.out.free 3
        have kk : wB1.cell? ⟨xb, 0, none⟩ = some (.int .i64 (1)) := HC1.out.cell 0
        have HS2 : Hid (DecX w (wB1.setCell ⟨xb, 3, none⟩ (.int .i64 (t1 : Int))) rb pb xb P1 v L (lim : Int) #[.int .i64 (1), .string N1, .string ⟨#[]⟩, .int .i64 (t1 : Int), .int .i64 0, .int .i64 0]) := HC1.out.store 3 _
        have kz : (wB1.setCell ⟨xb, 3, none⟩ (.int .i64 (t1 : Int))).cell? ⟨xb, 0, none⟩ = some (.int .i64 (1)) := HS2.out.cell 0
        have k2 := kz
        obtain ⟨N2, hN2⟩ : ∃ N, (⟨(textS P1).1.toArray⟩ : ByteArray) = N := ⟨_, rfl⟩
        obtain ⟨P2, hP2⟩ : ∃ Q, (textS P1).2 = Q := ⟨_, rfl⟩
        rw [hN2, hP2] at HRS
        have htN2 : tv (textS P1).1 = .string N2 := congrArg Value.string hN2
        have HTN2 := Lib.hid htN2
        have HPN2 := Lib.hid hP2
        clear hN2 hP2 htN2
        go_wp2_with fail
        refine (rtext2_any HS2.out.at'.rd).mono ?_
        rintro e wB2 ⟨rfl, hb2⟩
        rw [HTN2.out]
        rw [HPN2.out] at hb2
        have HC2 := Lib.hid (HS2.out.call hb2)
        clear hb2 k0
        have k0 : wB2.cell? ⟨xb, 2, none⟩ = some (.string ⟨#[]⟩) := HC2.out.cell 2
        have k1 := HC2.out.free 2
        have kk : wB2.cell? ⟨xb, 0, none⟩ = some (.int .i64 (1)) := HC2.out.cell 0
        have HS3 : Hid (DecX w (wB2.setCell ⟨xb, 2, none⟩ (.string N2)) rb pb xb P2 v L (lim : Int) #[.int .i64 (1), .string N1, .string N2, .int .i64 (t1 : Int), .int .i64 0, .int .i64 0]) := HC2.out.store 2 _
        have kz : (wB2.setCell ⟨xb, 2, none⟩ (.string N2)).cell? ⟨xb, 0, none⟩ = some (.int .i64 (1)) := HS3.out.cell 0
        have k2 := kz
        obtain ⟨t2, ht2⟩ : ∃ N, (intS 9 P2).1 = N := ⟨_, rfl⟩
        obtain ⟨P3, hP3⟩ : ∃ Q, (intS 9 P2).2 = Q := ⟨_, rfl⟩
        rw [ht2, hP3] at HRS
        have HTt2 := Lib.hid ht2
        have HPt2 := Lib.hid hP3
        clear ht2 hP3
        go_wp2_with fail
        refine (rint2_any HS3.out.at'.rd 9 (by omega) (by omega)).mono ?_
        rintro e wB3 ⟨rfl, hb3⟩
        rw [HTt2.out]
        rw [HPt2.out] at hb3
        have HC3 := Lib.hid (HS3.out.call hb3)
        clear hb3 k0
        have k0 : wB3.cell? ⟨xb, 4, none⟩ = some (.int .i64 0) := HC3.out.cell 4
        have k1 := HC3.out.free 4
        have kk : wB3.cell? ⟨xb, 0, none⟩ = some (.int .i64 (1)) := HC3.out.cell 0
        have HS4 : Hid (DecX w (wB3.setCell ⟨xb, 4, none⟩ (.int .i64 (t2 : Int))) rb pb xb P3 v L (lim : Int) #[.int .i64 (1), .string N1, .string N2, .int .i64 (t1 : Int), .int .i64 (t2 : Int), .int .i64 0]) := HC3.out.store 4 _
        have kz : (wB3.setCell ⟨xb, 4, none⟩ (.int .i64 (t2 : Int))).cell? ⟨xb, 0, none⟩ = some (.int .i64 (1)) := HS4.out.cell 0
        obtain ⟨va, vc, rfl⟩ := row_slice12 HS4.out.at'.row
        have y0 : (wB3.setCell ⟨xb, 4, none⟩ (.int .i64 (t2 : Int))).cell? ⟨xb, 0, none⟩ = some (.int .i64 (1)) := HS4.out.cell 0
        have y1 : (wB3.setCell ⟨xb, 4, none⟩ (.int .i64 (t2 : Int))).cell? ⟨xb, 1, none⟩ = some (.string N1) := HS4.out.cell 1
        have y2 : (wB3.setCell ⟨xb, 4, none⟩ (.int .i64 (t2 : Int))).cell? ⟨xb, 2, none⟩ = some (.string N2) := HS4.out.cell 2
        have y3 : (wB3.setCell ⟨xb, 4, none⟩ (.int .i64 (t2 : Int))).cell? ⟨xb, 3, none⟩ = some (.int .i64 (t1 : Int)) := HS4.out.cell 3
        have y4 : (wB3.setCell ⟨xb, 4, none⟩ (.int .i64 (t2 : Int))).cell? ⟨xb, 4, none⟩ = some (.int .i64 (t2 : Int)) := HS4.out.cell 4
        have y5 : (wB3.setCell ⟨xb, 4, none⟩ (.int .i64 (t2 : Int))).cell? ⟨xb, 5, none⟩ = some (.int .i64 0) := HS4.out.cell 5
        have p0 : (wB3.setCell ⟨xb, 4, none⟩ (.int .i64 (t2 : Int))).cell? ⟨pb, 0, none⟩ = some (.slice va L.length vc) := by rw [block_cell HS4.out.at'.pg]; rfl
        have HZ : Hid (DecAt w ((wB3.setCell ⟨xb, 4, none⟩ (.int .i64 (t2 : Int))).alloc (.cells #[.int .i64 (1), .string N1, .string N2, .int .i64 (t1 : Int), .int .i64 (t2 : Int), .int .i64 0] 53)) rb pb P3 (.slice va L.length vc) L (lim : Int)) := HS4.out.at'.alloc _
        have hsrc : SrcRow ((wB3.setCell ⟨xb, 4, none⟩ (.int .i64 (t2 : Int))).alloc (.cells #[.int .i64 (1), .string N1, .string N2, .int .i64 (t1 : Int), .int .i64 (t2 : Int), .int .i64 0] 53)) (.slice (some ⟨wB3.heap.size, 0, none⟩) 1 1) 1 6 (StepS.cells (⟨1, N1, N2, (t1 : Int), (t2 : Int), 0⟩)) := by
          have h1 := src_new (sz := 6) (wB3.setCell ⟨xb, 4, none⟩ (.int .i64 (t2 : Int))) #[.int .i64 (1), .string N1, .string N2, .int .i64 (t1 : Int), .int .i64 (t2 : Int), .int .i64 0] 53 rfl (StepS.one (⟨1, N1, N2, (t1 : Int), (t2 : Int), 0⟩))
          have h2 : (wB3.setCell ⟨xb, 4, none⟩ (.int .i64 (t2 : Int))).heap.size = wB3.heap.size := by simp
          rw [h2] at h1
          exact h1
        go_wp2_with (at_builtin; go_loud (refine wpList_app _ rfl (.tmp 52) (.tmp 54) rfl Try.underlying24 hi0 hz0 hz1 hz2 rfl (by decide) rfl HZ.out.row rfl hsrc ?c1_a ?c2_a ?_))
        case c1_a => have := HLEN.out; omega
        case c2_a => have := HLEN.out; unfold maxLen; omega
        intro v' w4 hown0 hgrow hwh
        have HD4 := Lib.hid (DecAt.add (x := ⟨1, N1, N2, (t1 : Int), (t2 : Int), 0⟩) HZ.out hgrow hown0 (fun k hk => by rcases hwh k hk with e | e; exact .inl e; exact .inr (by simpa using e)))
        have hpg4 := (hgrow.block pb (block_lt HZ.out.pg) (fun e => by have := HZ.out.blk pb e.symm; omega)).trans HZ.out.pg
        have p1 : w4.cell? ⟨pb, 0, none⟩ = some (.slice va L.length vc) := by rw [block_cell hpg4]; rfl
        have p2 : w4.frozen? ⟨pb, 0, none⟩ = false := block_free hpg4 0
        obtain ⟨va', vc', rfl⟩ := row_slice12 hown0
        have HR2 : Hid ((rdSteps R2 (i + 1)).1 = L ++ [⟨1, N1, N2, (t1 : Int), (t2 : Int), 0⟩] ∧ (rdSteps R2 (i + 1)).2 = P3) := by constructor <;> rw [HNX.out, HRS.out]
        clear hown0 hgrow hwh hpg4 hsrc k0 k1 kz kk y0 y1 y2 y3 y4 y5 p0
        go_wp2
        go_roundw
        case rel => exact ⟨i + 1, _, by omega, by go_num, by rw [HR2.out.1, HR2.out.2]; exact HD4.out⟩
        case measure => exact hmes
      · by_cases hk2 : KK = 2
        · subst hk2
          have HRS := Lib.hid (rdStep_two HK1.out.1)
          rw [HK1.out.2] at HRS
          clear HX1
          have HS0 : Hid (DecX w (wA.setCell ⟨xb, 0, none⟩ (.int .i64 (2))) rb pb xb Q1 v L (lim : Int) #[.int .i64 (2), .string ⟨#[]⟩, .string ⟨#[]⟩, .int .i64 0, .int .i64 0, .int .i64 0]) := HX2
          have k0 : (wA.setCell ⟨xb, 0, none⟩ (.int .i64 (2))).cell? ⟨xb, 0, none⟩ = some (.int .i64 (2)) := HS0.out.cell 0
          clear HX2
          obtain ⟨t1, ht1⟩ : ∃ N, (intS 9999 Q1).1 = N := ⟨_, rfl⟩
          obtain ⟨P0, hP0⟩ : ∃ Q, (intS 9999 Q1).2 = Q := ⟨_, rfl⟩
          rw [ht1, hP0] at HRS
          have HTt1 := Lib.hid ht1
          have HPt1 := Lib.hid hP0
          clear ht1 hP0
          go_wp2_with fail
          refine (rint2_any HS0.out.at'.rd 9999 (by omega) (by omega)).mono ?_
          rintro e wB0 ⟨rfl, hb0⟩
          rw [HTt1.out]
          rw [HPt1.out] at hb0
          have HC0 := Lib.hid (HS0.out.call hb0)
          clear hb0 k0 a0 a1
          have k0 : wB0.cell? ⟨xb, 5, none⟩ = some (.int .i64 0) := HC0.out.cell 5
          have k1 := HC0.out.free 5
          have kk : wB0.cell? ⟨xb, 0, none⟩ = some (.int .i64 (2)) := HC0.out.cell 0
          have HS1 : Hid (DecX w (wB0.setCell ⟨xb, 5, none⟩ (.int .i64 (t1 : Int))) rb pb xb P0 v L (lim : Int) #[.int .i64 (2), .string ⟨#[]⟩, .string ⟨#[]⟩, .int .i64 0, .int .i64 0, .int .i64 (t1 : Int)]) := HC0.out.store 5 _
          have kz : (wB0.setCell ⟨xb, 5, none⟩ (.int .i64 (t1 : Int))).cell? ⟨xb, 0, none⟩ = some (.int .i64 (2)) := HS1.out.cell 0
          obtain ⟨va, vc, rfl⟩ := row_slice12 HS1.out.at'.row
          have y0 : (wB0.setCell ⟨xb, 5, none⟩ (.int .i64 (t1 : Int))).cell? ⟨xb, 0, none⟩ = some (.int .i64 (2)) := HS1.out.cell 0
          have y1 : (wB0.setCell ⟨xb, 5, none⟩ (.int .i64 (t1 : Int))).cell? ⟨xb, 1, none⟩ = some (.string ⟨#[]⟩) := HS1.out.cell 1
          have y2 : (wB0.setCell ⟨xb, 5, none⟩ (.int .i64 (t1 : Int))).cell? ⟨xb, 2, none⟩ = some (.string ⟨#[]⟩) := HS1.out.cell 2
          have y3 : (wB0.setCell ⟨xb, 5, none⟩ (.int .i64 (t1 : Int))).cell? ⟨xb, 3, none⟩ = some (.int .i64 0) := HS1.out.cell 3
          have y4 : (wB0.setCell ⟨xb, 5, none⟩ (.int .i64 (t1 : Int))).cell? ⟨xb, 4, none⟩ = some (.int .i64 0) := HS1.out.cell 4
          have y5 : (wB0.setCell ⟨xb, 5, none⟩ (.int .i64 (t1 : Int))).cell? ⟨xb, 5, none⟩ = some (.int .i64 (t1 : Int)) := HS1.out.cell 5
          have p0 : (wB0.setCell ⟨xb, 5, none⟩ (.int .i64 (t1 : Int))).cell? ⟨pb, 0, none⟩ = some (.slice va L.length vc) := by rw [block_cell HS1.out.at'.pg]; rfl
          have HZ : Hid (DecAt w ((wB0.setCell ⟨xb, 5, none⟩ (.int .i64 (t1 : Int))).alloc (.cells #[.int .i64 (2), .string ⟨#[]⟩, .string ⟨#[]⟩, .int .i64 0, .int .i64 0, .int .i64 (t1 : Int)] 53)) rb pb P0 (.slice va L.length vc) L (lim : Int)) := HS1.out.at'.alloc _
          have hsrc : SrcRow ((wB0.setCell ⟨xb, 5, none⟩ (.int .i64 (t1 : Int))).alloc (.cells #[.int .i64 (2), .string ⟨#[]⟩, .string ⟨#[]⟩, .int .i64 0, .int .i64 0, .int .i64 (t1 : Int)] 53)) (.slice (some ⟨wB0.heap.size, 0, none⟩) 1 1) 1 6 (StepS.cells (⟨2, ⟨#[]⟩, ⟨#[]⟩, 0, 0, (t1 : Int)⟩)) := by
            have h1 := src_new (sz := 6) (wB0.setCell ⟨xb, 5, none⟩ (.int .i64 (t1 : Int))) #[.int .i64 (2), .string ⟨#[]⟩, .string ⟨#[]⟩, .int .i64 0, .int .i64 0, .int .i64 (t1 : Int)] 53 rfl (StepS.one (⟨2, ⟨#[]⟩, ⟨#[]⟩, 0, 0, (t1 : Int)⟩))
            have h2 : (wB0.setCell ⟨xb, 5, none⟩ (.int .i64 (t1 : Int))).heap.size = wB0.heap.size := by simp
            rw [h2] at h1
            exact h1
          go_wp2_with (at_builtin; go_loud (refine wpList_app _ rfl (.tmp 52) (.tmp 54) rfl Try.underlying24 hi0 hz0 hz1 hz2 rfl (by decide) rfl HZ.out.row rfl hsrc ?c1_b ?c2_b ?_))
          case c1_b => have := HLEN.out; omega
          case c2_b => have := HLEN.out; unfold maxLen; omega
          intro v' w4 hown0 hgrow hwh
          have HD4 := Lib.hid (DecAt.add (x := ⟨2, ⟨#[]⟩, ⟨#[]⟩, 0, 0, (t1 : Int)⟩) HZ.out hgrow hown0 (fun k hk => by rcases hwh k hk with e | e; exact .inl e; exact .inr (by simpa using e)))
          have hpg4 := (hgrow.block pb (block_lt HZ.out.pg) (fun e => by have := HZ.out.blk pb e.symm; omega)).trans HZ.out.pg
          have p1 : w4.cell? ⟨pb, 0, none⟩ = some (.slice va L.length vc) := by rw [block_cell hpg4]; rfl
          have p2 : w4.frozen? ⟨pb, 0, none⟩ = false := block_free hpg4 0
          obtain ⟨va', vc', rfl⟩ := row_slice12 hown0
          have HR2 : Hid ((rdSteps R2 (i + 1)).1 = L ++ [⟨2, ⟨#[]⟩, ⟨#[]⟩, 0, 0, (t1 : Int)⟩] ∧ (rdSteps R2 (i + 1)).2 = P0) := by constructor <;> rw [HNX.out, HRS.out]
          clear hown0 hgrow hwh hpg4 hsrc k0 k1 kz kk y0 y1 y2 y3 y4 y5 p0
          go_wp2
          go_roundw
          case rel => exact ⟨i + 1, _, by omega, by go_num, by rw [HR2.out.1, HR2.out.2]; exact HD4.out⟩
          case measure => exact hmes
        · have HRS := Lib.hid (rdStep_else (by rw [HK1.out.1]; exact hk1) (by rw [HK1.out.1]; exact hk2))
          rw [HK1.out.1, HK1.out.2] at HRS
          have hn1 : ((KK : Int) == 1) = false := by rw [beq_eq_false_iff_ne]; omega
          have hn2 : ((KK : Int) == 2) = false := by rw [beq_eq_false_iff_ne]; omega
          clear HX1
          have HS0 : Hid (DecX w (wA.setCell ⟨xb, 0, none⟩ (.int .i64 (KK : Int))) rb pb xb Q1 v L (lim : Int) #[.int .i64 (KK : Int), .string ⟨#[]⟩, .string ⟨#[]⟩, .int .i64 0, .int .i64 0, .int .i64 0]) := HX2
          have k0 : (wA.setCell ⟨xb, 0, none⟩ (.int .i64 (KK : Int))).cell? ⟨xb, 0, none⟩ = some (.int .i64 (KK : Int)) := HS0.out.cell 0
          clear HX2
          obtain ⟨N1, hN1⟩ : ∃ N, (⟨(textS Q1).1.toArray⟩ : ByteArray) = N := ⟨_, rfl⟩
          obtain ⟨P0, hP0⟩ : ∃ Q, (textS Q1).2 = Q := ⟨_, rfl⟩
          rw [hN1, hP0] at HRS
          have htN1 : tv (textS Q1).1 = .string N1 := congrArg Value.string hN1
          have HTN1 := Lib.hid htN1
          have HPN1 := Lib.hid hP0
          clear hN1 hP0 htN1
          go_wp2_with fail
          refine (rtext2_any HS0.out.at'.rd).mono ?_
          rintro e wB0 ⟨rfl, hb0⟩
          rw [HTN1.out]
          rw [HPN1.out] at hb0
          have HC0 := Lib.hid (HS0.out.call hb0)
          clear hb0 k0 a0 a1
          have k0 : wB0.cell? ⟨xb, 1, none⟩ = some (.string ⟨#[]⟩) := HC0.out.cell 1
          have k1 := HC0.out.free 1
          have kk : wB0.cell? ⟨xb, 0, none⟩ = some (.int .i64 (KK : Int)) := HC0.out.cell 0
          have HS1 : Hid (DecX w (wB0.setCell ⟨xb, 1, none⟩ (.string N1)) rb pb xb P0 v L (lim : Int) #[.int .i64 (KK : Int), .string N1, .string ⟨#[]⟩, .int .i64 0, .int .i64 0, .int .i64 0]) := HC0.out.store 1 _
          have kz : (wB0.setCell ⟨xb, 1, none⟩ (.string N1)).cell? ⟨xb, 0, none⟩ = some (.int .i64 (KK : Int)) := HS1.out.cell 0
          obtain ⟨va, vc, rfl⟩ := row_slice12 HS1.out.at'.row
          have y0 : (wB0.setCell ⟨xb, 1, none⟩ (.string N1)).cell? ⟨xb, 0, none⟩ = some (.int .i64 (KK : Int)) := HS1.out.cell 0
          have y1 : (wB0.setCell ⟨xb, 1, none⟩ (.string N1)).cell? ⟨xb, 1, none⟩ = some (.string N1) := HS1.out.cell 1
          have y2 : (wB0.setCell ⟨xb, 1, none⟩ (.string N1)).cell? ⟨xb, 2, none⟩ = some (.string ⟨#[]⟩) := HS1.out.cell 2
          have y3 : (wB0.setCell ⟨xb, 1, none⟩ (.string N1)).cell? ⟨xb, 3, none⟩ = some (.int .i64 0) := HS1.out.cell 3
          have y4 : (wB0.setCell ⟨xb, 1, none⟩ (.string N1)).cell? ⟨xb, 4, none⟩ = some (.int .i64 0) := HS1.out.cell 4
          have y5 : (wB0.setCell ⟨xb, 1, none⟩ (.string N1)).cell? ⟨xb, 5, none⟩ = some (.int .i64 0) := HS1.out.cell 5
          have p0 : (wB0.setCell ⟨xb, 1, none⟩ (.string N1)).cell? ⟨pb, 0, none⟩ = some (.slice va L.length vc) := by rw [block_cell HS1.out.at'.pg]; rfl
          have HZ : Hid (DecAt w ((wB0.setCell ⟨xb, 1, none⟩ (.string N1)).alloc (.cells #[.int .i64 (KK : Int), .string N1, .string ⟨#[]⟩, .int .i64 0, .int .i64 0, .int .i64 0] 53)) rb pb P0 (.slice va L.length vc) L (lim : Int)) := HS1.out.at'.alloc _
          have hsrc : SrcRow ((wB0.setCell ⟨xb, 1, none⟩ (.string N1)).alloc (.cells #[.int .i64 (KK : Int), .string N1, .string ⟨#[]⟩, .int .i64 0, .int .i64 0, .int .i64 0] 53)) (.slice (some ⟨wB0.heap.size, 0, none⟩) 1 1) 1 6 (StepS.cells (⟨(KK : Int), N1, ⟨#[]⟩, 0, 0, 0⟩)) := by
            have h1 := src_new (sz := 6) (wB0.setCell ⟨xb, 1, none⟩ (.string N1)) #[.int .i64 (KK : Int), .string N1, .string ⟨#[]⟩, .int .i64 0, .int .i64 0, .int .i64 0] 53 rfl (StepS.one (⟨(KK : Int), N1, ⟨#[]⟩, 0, 0, 0⟩))
            have h2 : (wB0.setCell ⟨xb, 1, none⟩ (.string N1)).heap.size = wB0.heap.size := by simp
            rw [h2] at h1
            exact h1
          go_wp2_with (at_builtin; go_loud (refine wpList_app _ rfl (.tmp 52) (.tmp 54) rfl Try.underlying24 hi0 hz0 hz1 hz2 rfl (by decide) rfl HZ.out.row rfl hsrc ?c1_c ?c2_c ?_))
          case c1_c => have := HLEN.out; omega
          case c2_c => have := HLEN.out; unfold maxLen; omega
          intro v' w4 hown0 hgrow hwh
          have HD4 := Lib.hid (DecAt.add (x := ⟨(KK : Int), N1, ⟨#[]⟩, 0, 0, 0⟩) HZ.out hgrow hown0 (fun k hk => by rcases hwh k hk with e | e; exact .inl e; exact .inr (by simpa using e)))
          have hpg4 := (hgrow.block pb (block_lt HZ.out.pg) (fun e => by have := HZ.out.blk pb e.symm; omega)).trans HZ.out.pg
          have p1 : w4.cell? ⟨pb, 0, none⟩ = some (.slice va L.length vc) := by rw [block_cell hpg4]; rfl
          have p2 : w4.frozen? ⟨pb, 0, none⟩ = false := block_free hpg4 0
          obtain ⟨va', vc', rfl⟩ := row_slice12 hown0
          have HR2 : Hid ((rdSteps R2 (i + 1)).1 = L ++ [⟨(KK : Int), N1, ⟨#[]⟩, 0, 0, 0⟩] ∧ (rdSteps R2 (i + 1)).2 = P0) := by constructor <;> rw [HNX.out, HRS.out]
          clear hown0 hgrow hwh hpg4 hsrc k0 k1 kz kk y0 y1 y2 y3 y4 y5 p0
          go_wp2
          go_roundw
          case rel => exact ⟨i + 1, _, by omega, by go_num, by rw [HR2.out.1, HR2.out.2]; exact HD4.out⟩
          case measure => exact hmes
    · obtain rfl : i = n := by omega
      have HZS : Hid (∀ x ∈ (rdSteps R2 i).1, x.name.size ≤ maxLen ∧ x.undo.size ≤ maxLen) := fun x hx => by
        have := (hFit i).2 x hx
        unfold FitG at this
        unfold maxLen
        omega
      have HOK : Hid (okB s.data.toList = (progB ⟨(rdSteps R2 i).1, (lim : Int)⟩ && (rdSteps R2 i).2 == some [] && encProg ⟨(rdSteps R2 i).1, (lim : Int)⟩ == s.data.toList)) := by
        show _ = _
        unfold okB
        rw [HRP.out]
      have HPR : Hid ((rdProg s.data.toList).1 = ⟨(rdSteps R2 i).1, (lim : Int)⟩) := by show _ = _; rw [HRP.out]
      clear hFit HRP hM
      generalize (rdSteps R2 i).1 = L at *
      generalize (rdSteps R2 i).2 = R at *
      obtain ⟨va, vc, rfl⟩ := row_slice12 HI.out.row
      have p0 : wr.cell? ⟨pb, 0, none⟩ = some (.slice va L.length vc) := by rw [block_cell HI.out.pg]; rfl
      have p1 : wr.cell? ⟨pb, 1, none⟩ = some (.int .i64 (lim : Int)) := by rw [block_cell HI.out.pg]; rfl
      have henc := rencode_any ⟨L, (lim : Int)⟩ (ReadG.own HI.out.row HZS.out)
      unfold ProgS.val' at henc
      simp only at henc
      by_cases hp : progB ⟨L, (lim : Int)⟩ = true
      · have hE : encE ⟨L, (lim : Int)⟩ = 0 := if_pos hp
        have hS : encS ⟨L, (lim : Int)⟩ = bx (encProg ⟨L, (lim : Int)⟩) := if_pos hp
        rw [hE, hS] at henc
        have HEN := Lib.hid henc
        rw [hp] at HOK
        clear henc hE hS hp
        go_wp2_with fail
        refine HEN.out.mono ?_
        rintro e w5 ⟨rfl, b5⟩
        have H5 := Lib.hid (HI.out.later b5)
        clear b5 p0 p1 HEN
        go_wp2_with fail
        refine (rend_any H5.out.rd).mono ?_
        rintro e w6 ⟨rfl, rfl⟩
        have p0 : w5.cell? ⟨pb, 0, none⟩ = some (.slice va L.length vc) := by rw [block_cell H5.out.pg]; rfl
        have p1 : w5.cell? ⟨pb, 1, none⟩ = some (.int .i64 (lim : Int)) := by rw [block_cell H5.out.pg]; rfl
        have q0 : w5.cell? ⟨w.heap.size, 0, none⟩ = some (.slice none 0 0) := by rw [block_cell H5.out.res]; rfl
        have q1 : w5.cell? ⟨w.heap.size, 1, none⟩ = some (.int .i64 0) := by rw [block_cell H5.out.res]; rfl
        have f0 := block_free H5.out.res 0
        have f1 := block_free H5.out.res 1
        have hendS : endS R = (R == some []) := rfl
        by_cases he : endS R = true
        · have HOK2 : Hid (okB s.data.toList = (encProg ⟨L, (lim : Int)⟩ == s.data.toList)) := by
            show _ = _
            rw [HOK.out, ← hendS, he]
            simp
          rw [he]
          clear hendS HOK he
          by_cases hb : bx (encProg ⟨L, (lim : Int)⟩) = s
          · have HB : Hid (okB s.data.toList = true) := by
              show _ = _
              rw [HOK2.out, ← hb]
              simp [bx]
            have hc : ((bx (encProg ⟨L, (lim : Int)⟩)).toList == s.toList) = true := by rw [hb]; simp
            clear hb HOK2
            generalize bx (encProg ⟨L, (lim : Int)⟩) = BK at *
            go_wp2
            (try simp only [Exit.inBlock, Exit.then])
            refine bodyPost_ret (v := .tuple #[.agg #[.slice va L.length vc, .int .i64 (lim : Int)], .int .i64 0]) ?_ rfl ⟨va, vc, ⟨L, (lim : Int)⟩, 0, rfl, ?_⟩
            · rw [results_cell_tmp rfl]
              go_simp
            · obtain ⟨r1, r2⟩ := H5.out.ends HZS.out (.slice va L.length vc) (.int .i64 (lim : Int))
              exact ⟨r1, .inl ⟨HB.out, HPR.out.symm, rfl⟩, r2⟩
          · have HB : Hid (okB s.data.toList = false) := by
              show _ = _
              rw [HOK2.out]
              refine beq_eq_false_iff_ne.2 fun e => hb ?_
              unfold bx
              rw [e]
            have hc : ((bx (encProg ⟨L, (lim : Int)⟩)).toList == s.toList) = false := by
              rw [beq_eq_false_iff_ne]
              exact fun e => hb ((toList_iff12b _ _).1 e)
            clear hb HOK2
            generalize bx (encProg ⟨L, (lim : Int)⟩) = BK at *
            go_wp2
            (try simp only [Exit.inBlock, Exit.then])
            refine bodyPost_ret (v := .tuple #[.agg #[.slice none 0 0, .int .i64 0], .int .i64 60]) ?_ rfl ⟨none, 0, ⟨[], 0⟩, 60, rfl, ?_⟩
            · rw [results_cell_tmp rfl]
              go_simp
            · obtain ⟨r1, r2⟩ := H5.out.ends HZS.out (.slice none 0 0) (.int .i64 0)
              exact ⟨⟨by simp [maxLen], fun x hx => (by cases hx), none, 0, rfl, .inl rfl⟩, .inr ⟨HB.out, rfl, rfl⟩, r2⟩
        · rw [Bool.not_eq_true] at he
          have HB : Hid (okB s.data.toList = false) := by
            show _ = _
            rw [HOK.out, ← hendS, he]
            simp
          rw [he]
          clear hendS HOK he
          generalize bx (encProg ⟨L, (lim : Int)⟩) = BK at *
          go_wp2
          (try simp only [Exit.inBlock, Exit.then])
          refine bodyPost_ret (v := .tuple #[.agg #[.slice none 0 0, .int .i64 0], .int .i64 60]) ?_ rfl ⟨none, 0, ⟨[], 0⟩, 60, rfl, ?_⟩
          · rw [results_cell_tmp rfl]
            go_simp
          · obtain ⟨r1, r2⟩ := H5.out.ends HZS.out (.slice none 0 0) (.int .i64 0)
            exact ⟨⟨by simp [maxLen], fun x hx => (by cases hx), none, 0, rfl, .inl rfl⟩, .inr ⟨HB.out, rfl, rfl⟩, r2⟩
      · have hE : encE ⟨L, (lim : Int)⟩ = 130 := if_neg hp
        rw [Bool.not_eq_true] at hp
        have HB : Hid (okB s.data.toList = false) := by
          show _ = _
          rw [HOK.out, hp]
          simp
        rw [hE] at henc
        generalize encS ⟨L, (lim : Int)⟩ = BK at *
        have HEN := Lib.hid henc
        clear henc hE hp HOK
        go_wp2_with fail
        refine HEN.out.mono ?_
        rintro e w5 ⟨rfl, b5⟩
        have H5 := Lib.hid (HI.out.later b5)
        clear b5 p0 p1 HEN
        have q0 : w5.cell? ⟨w.heap.size, 0, none⟩ = some (.slice none 0 0) := by rw [block_cell H5.out.res]; rfl
        have q1 : w5.cell? ⟨w.heap.size, 1, none⟩ = some (.int .i64 0) := by rw [block_cell H5.out.res]; rfl
        have f0 := block_free H5.out.res 0
        have f1 := block_free H5.out.res 1
        go_wp2
        (try simp only [Exit.inBlock, Exit.then])
        refine bodyPost_ret (v := .tuple #[.agg #[.slice none 0 0, .int .i64 0], .int .i64 60]) ?_ rfl ⟨none, 0, ⟨[], 0⟩, 60, rfl, ?_⟩
        · rw [results_cell_tmp rfl]
          go_simp
        · obtain ⟨r1, r2⟩ := H5.out.ends HZS.out (.slice none 0 0) (.int .i64 0)
          exact ⟨⟨by simp [maxLen], fun x hx => (by cases hx), none, 0, rfl, .inl rfl⟩, .inr ⟨HB.out, rfl, rfl⟩, r2⟩
end Go.Proofs.Ytlkfpeefjpmmfaa

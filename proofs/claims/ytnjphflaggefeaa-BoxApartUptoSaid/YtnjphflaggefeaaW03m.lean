/- Layer 3: the walk of BoxOrder. -/
import Derived.Test.YtnjphflaggefeaaW03k
import Derived.Test.YtnjphflaggefeaaM01t
import Derived.Deep.CutBlock
import Derived.Deep.CutRange
import Derived.Deep.DeepCutAuto
namespace Go.Proofs.Ytnjphflaggefeaa
open Go.RowKit Go.Maps Go.WideMaps
set_option linter.unusedVariables false

theorem sizes_append (a b : List ByteArray) : sizes (a ++ b) = sizes a + sizes b := by simp [sizes]
theorem sizes_take {ss : List ByteArray} {k : Nat} (h : k < ss.length) : sizes (ss.take (k + 1)) = sizes (ss.take k) + ss[k].size := by
  rw [List.take_succ_eq_append_getElem h, sizes_append, sizes_cons]; simp [sizes]
theorem sizes_mono (ss : List ByteArray) (k : Nat) : sizes (ss.take k) ≤ sizes ss := by
  have : sizes ss = sizes (ss.take k) + sizes (ss.drop k) := by rw [← sizes_append, List.take_append_drop]
  omega

/-- A box of the file f alone, if any: what was added is L. -/
structure OInv (L : List UInt8) (S : Bx) : Prop where
  fuel : S.fuel = -1
  up : S.down = false
  file : (S.files = [] ∧ L = []) ∨ ∃ d, S.files = [([102], ⟨L, d⟩)] ∧ d ≤ L.length
theorem OInv.start : OInv [] Bx.new := ⟨rfl, rfl, .inl ⟨rfl, rfl⟩⟩
theorem OInv.small {L : List UInt8} {S : Bx} (h : OInv L S) : weigh S.files ≤ L.length + 1 := by
  rcases h.file with ⟨h1, h2⟩ | ⟨d, h1, _⟩ <;> rw [h1] <;> simp [weigh]
theorem OInv.burnt {L : List UInt8} {S : Bx} (h : OInv L S) : S.burnt.fuel = -1 := by
  show (if 0 < S.fuel then S.fuel - 1 else S.fuel) = -1
  rw [h.fuel]; rfl
theorem OInv.append {L : List UInt8} {S : Bx} (h : OInv L S) (d : List UInt8) : (S.append [102] d).2 = 0 ∧ OInv (L ++ d) (S.append [102] d).1 ∧ ∃ n, (S.append [102] d).1.files = [([102], ⟨L ++ d, n⟩)] ∧ n ≤ (L ++ d).length ∧ (∀ m, S.files = [([102], ⟨L, m⟩)] → n = m) ∧ (S.files = [] → n = 0) := by
  rw [Bx.append_ok h.up rfl, Bx.change_yes (by rw [h.fuel]; decide)]
  rcases h.file with ⟨h1, h2⟩ | ⟨n, h1, hn⟩
  · rw [h1, h2]
    exact ⟨rfl, ⟨h.burnt, h.up, .inr ⟨0, rfl, by omega⟩⟩, 0, rfl, by omega, fun m hm => by simp at hm, fun _ => rfl⟩
  · rw [h1]
    refine ⟨rfl, ⟨h.burnt, h.up, .inr ⟨n, rfl, by rw [List.length_append]; omega⟩⟩, n, rfl, by rw [List.length_append]; omega, fun m hm => by simp at hm; omega, fun h0 => by simp at h0⟩
theorem OInv.sync {L : List UInt8} {S : Bx} {n : Nat} (h : OInv L S) (hf : S.files = [([102], ⟨L, n⟩)]) : (S.sync [102]).2 = 0 ∧ OInv L (S.sync [102]).1 ∧ (S.sync [102]).1.files = [([102], ⟨L, L.length⟩)] := by
  rw [Bx.sync_some h.up (f := ⟨L, n⟩) (by rw [hf]; rfl), Bx.change_yes (by rw [h.fuel]; decide), hf]
  exact ⟨rfl, ⟨h.burnt, h.up, .inr ⟨L.length, rfl, by omega⟩⟩, rfl⟩
theorem OInv.read {L : List UInt8} {S : Bx} {n : Nat} (h : OInv L S) (hf : S.files = [([102], ⟨L, n⟩)]) : S.read [102] = (L, 0) := Bx.read_some (f := ⟨L, n⟩) h.up (by rw [hf]; rfl)

set_option maxHeartbeats 1000000 in
set_option maxRecDepth 100000 in
theorem order3_walk (a0 : Option Addr) (l0 c0 : Nat) (ss : List ByteArray) (c : Int) (hc : (Lit.int .i64 c).wf = true) (w : World)
    (h0 : Row1 w a0 l0 (fun i => .string (ss.getD i ByteArray.empty))) (hs : ss.length = l0) (hB : sizes ss + ss.length ≤ 1048576) :
    Calls Try.prog 8 #[.slice a0 l0 c0, .int .i64 c] w fun e w' => e = .returned (.bool true) ∧ Below w.heap.size w w' := by
  have m0 := h0.max
  have hcb := bounds_i64 hc
  clear hc
  obtain rfl := hs
  go_enter Try.func8, Try.ntmps8
  go_wp2_with fail
  refine (awake3_any _).mono ?_
  rintro e w1 ⟨rfl, b1⟩
  go_wp2_with fail
  refine (own_new w.heap.size _ b1.size).mono ?_
  rintro e w2 ⟨p, rfl, h2, c2⟩
  have B2 := Lib.hid (below_next b1 (Nat.le_refl _) c2)
  have H2 := Lib.hid h2
  have H0 := Lib.hid h0
  clear b1 c2 h2 h0
  go_wp2
  go_loopw [6, 18] (fun av iv wr => ∃ (k : Nat) (t : ByteArray) (S : Bx), k ≤ ss.length ∧ iv = .int .i64 (k : Int) ∧ av = .string t ∧ t.size ≤ 1048576 ∧ Hid (t.size = sizes (ss.take k)) ∧ Hid (OInv t.data.toList S) ∧ Hid (Own w.heap.size wr p S) ∧ Hid (Below w.heap.size w wr)) (fun _ iv _ => ss.length - (intOf iv).toNat)
  case atStart => exact ⟨0, ⟨#[]⟩, _, by omega, rfl, rfl, by decide, rfl, OInv.start, H2.out, B2.out⟩
  case round =>
    clear H2 B2
    obtain ⟨k, t, S, hk, rfl, rfl, htz, HZ, HI, HO, HB⟩ := hrel
    by_cases hlt : k < ss.length
    · obtain ⟨b, off, rfl, hcell⟩ := H0.out.in HB.out hlt
      have hget : ss.getD k ByteArray.empty = ss[k] := by simp [List.getD, hlt]
      rw [hget] at hcell
      have hz1 := sizes_take hlt
      have hz2 := sizes_mono ss (k + 1)
      have hz := HZ.out
      have hsk : ss[k].size ≤ 1048576 := by omega
      have hts : (t ++ ss[k]).size ≤ 1048576 := by rw [concat_size]; omega
      have HZ2 : Hid ((t ++ ss[k]).size = sizes (ss.take (k + 1))) := by show _ = _; rw [concat_size]; omega
      generalize ss[k] = x at *
      clear hget hz hz1 hz2
      have hwg := HI.out.small
      have htl : t.data.toList.length = t.size := by simp
      obtain ⟨hr, hI2, n, hf, hn, _⟩ := HI.out.append x.data.toList
      rw [← concat_form rfl rfl] at hI2 hf hn
      have HI2 := Lib.hid hI2
      have HF := Lib.hid hf
      have hwb : weigh S.files + x.size ≤ 140737488355328 := by omega
      clear hI2 hf hn htl hwg
      go_wp2_with fail
      refine (own_append HO.out HB.out.size ⟨#[102]⟩ x (by decide) hwb).mono ?_
      rintro e w3 ⟨rfl, h3, c3⟩
      rw [show (S.append (ByteArray.mk #[102]).data.toList x.data.toList).2 = 0 from hr]
      have H3 := Lib.hid (show Own w.heap.size w3 p (S.append [102] x.data.toList).1 from h3)
      have B3 := Lib.hid (HB.out.trans c3)
      clear h3 c3 hr hcell
      generalize (S.append [102] x.data.toList).1 = S2 at *
      go_upto_region 11 with (fail)
      go_cut [42] from 30 to 42 (fun bv wx => bv = .bool false ∧ ∃ (S3 : Bx) (n3 : Nat), Hid (OInv (t ++ x).data.toList S3) ∧ Hid (S3.files = [([102], ⟨(t ++ x).data.toList, n3⟩)]) ∧ Hid (Own w.heap.size wx p S3) ∧ Hid (Below w.heap.size w wx))
      case first =>
        by_cases hc0 : 0 < c
        · by_cases hm : (k : Int) % c = 0
          · go_wp2_with fail
            refine (own_sync H3.out B3.out.size ⟨#[102]⟩ (by decide)).mono ?_
            rintro e w5 ⟨rfl, h5, c5⟩
            obtain ⟨hr, hI, hF⟩ := HI2.out.sync HF.out
            rw [show (S2.sync (ByteArray.mk #[102]).data.toList).2 = 0 from hr]
            have H5 := Lib.hid h5
            have B5 := Lib.hid (B3.out.trans c5)
            have HI5 := Lib.hid hI
            have HF5 := Lib.hid hF
            clear hr hI hF h5 c5
            go_wp2_with fail
            go_meet
            exact ⟨rfl, _, _, HI5, HF5, H5, B5⟩
          · go_wp2_with fail
            go_meet
            exact ⟨rfl, S2, n, HI2, HF, H3, B3⟩
        · go_wp2
          go_meet
          exact ⟨rfl, S2, n, HI2, HF, H3, B3⟩
      case rest =>
        obtain ⟨rfl, S3, n3, HI3, HF3, H4, B4⟩ := hcut
        clear H3 B3 HI2 HF HI HO HB
        have hrd := HI3.out.read HF3.out
        have HRD := Lib.hid hrd
        have hfl : S3.files.length ≤ 8796093022208 := by rw [HF3.out]; simp
        have hup : (if S3.down then (30 : Int) else 0) = 0 := by rw [HI3.out.up]; rfl
        have HUP := Lib.hid hup
        have hl1 : (if S3.down then 0 else S3.files.length) = 1 := by rw [HI3.out.up, HF3.out]; rfl
        have HL1 := Lib.hid hl1
        have hl2 : (if S3.down then ([] : List Value) else S3.files.map fun x => tx x.1) = [tx [102]] := by rw [HI3.out.up, HF3.out]; rfl
        have HL2 := Lib.hid hl2
        clear hrd hup hl1 hl2
        go_wp2_with fail
        go_loopw [43] (fun jv wr' => ∃ j : Nat, j ≤ 2 ∧ jv = .int .i64 (j : Int) ∧ Hid (Own w.heap.size wr' p S3) ∧ Hid (Below w.heap.size w wr')) (fun jv _ => 2 - (intOf jv).toNat)
        case atStart => exact ⟨0, by omega, rfl, H4, B4⟩
        case round =>
          clear H4 B4
          obtain ⟨j, hj, rfl, H4, B4⟩ := hrel
          by_cases hj2 : j < 2
          · go_wp2_with fail
            refine (box_list H4.out hfl).mono ?_
            rintro e w6 ⟨lv, rfl, ho, hb6⟩
            rw [HUP.out]
            rw [HL1.out, HL2.out] at ho
            have H6 := Lib.hid (H4.out.below hb6)
            have B6 := Lib.hid (below_next B4.out (Nat.le_refl _) hb6)
            obtain ⟨la, lc, rfl⟩ := ownsRow_slice ho
            have hla : ∃ g, la = some ⟨g, 0, none⟩ := by
              rcases ho.2 with ⟨h1, h2⟩ | ⟨g, cap, cur, h1, _⟩
              · omega
              · injection h1 with h1; exact ⟨g, h1⟩
            obtain ⟨g, rfl⟩ := hla
            have hc6 : w6.cell? ⟨g, 0, none⟩ = some (tx [102]) := by rw [ho.cellAt 0 (by omega)]; rfl
            unfold tx at hc6
            clear ho hb6
            go_wp2_with fail
            refine (box_read H6.out ⟨#[102]⟩ (by decide)).mono ?_
            rintro e w7 ⟨rfl, rfl⟩
            rw [show S3.read (ByteArray.mk #[102]).data.toList = ((t ++ x).data.toList, 0) from HRD.out, tx_data]
            go_wp2
            go_roundw
            case rel => exact ⟨j + 1, by omega, by go_num, H6, B6⟩
            case measure => simp [intOf]; omega
          · obtain rfl : j = 2 := by omega
            go_wp2
            go_roundw
            case rel => exact ⟨k + 1, _, _, by omega, by go_num, rfl, hts, HZ2, HI3, H4, B4⟩
            case measure => simp [intOf]; omega
    · obtain rfl : k = ss.length := by omega
      go_wp2
      go_ret
      exact ⟨rfl, HB.out⟩
end Go.Proofs.Ytnjphflaggefeaa

/- Layer 3: the walk of BoxParts. -/
import Derived.Test.YtnjphflaggefeaaW03m
namespace Go.Proofs.Ytnjphflaggefeaa
open Go.RowKit Go.Maps Go.WideMaps
set_option linter.unusedVariables false

theorem turn_of (B : Nat) {w w' : World} (h : Below B w w') : Turn (fun k => B ≤ k) w w' := ⟨h.os, h.tape, h.output, h.size, fun k _ hk => h.block k (by omega)⟩

/-- A box of the file f alone, if any: L was added, n bytes of it are firm. -/
structure GInv (L : List UInt8) (n : Nat) (S : Bx) : Prop where
  fuel : S.fuel = -1
  up : S.down = false
  file : (S.files = [] ∧ L = [] ∧ n = 0) ∨ (S.files = [([102], ⟨L, n⟩)] ∧ n ≤ L.length)
theorem GInv.start : GInv [] 0 Bx.new := ⟨rfl, rfl, .inl ⟨rfl, rfl, rfl⟩⟩
theorem GInv.small {L : List UInt8} {n : Nat} {S : Bx} (h : GInv L n S) : weigh S.files ≤ L.length + 1 := by
  rcases h.file with ⟨h1, h2, _⟩ | ⟨h1, _⟩ <;> rw [h1] <;> simp [weigh]
theorem GInv.burnt {L : List UInt8} {n : Nat} {S : Bx} (h : GInv L n S) : S.burnt.fuel = -1 := by
  show (if 0 < S.fuel then S.fuel - 1 else S.fuel) = -1
  rw [h.fuel]; rfl
theorem GInv.append {L : List UInt8} {n : Nat} {S : Bx} (h : GInv L n S) (d : List UInt8) : (S.append [102] d).2 = 0 ∧ GInv (L ++ d) n (S.append [102] d).1 ∧ (S.append [102] d).1.files ≠ [] := by
  rw [Bx.append_ok h.up rfl, Bx.change_yes (by rw [h.fuel]; decide)]
  rcases h.file with ⟨h1, h2, h3⟩ | ⟨h1, hn⟩
  · rw [h1, h2, h3]
    exact ⟨rfl, ⟨h.burnt, h.up, .inr ⟨rfl, by omega⟩⟩, by simp [addK, findK, insK]⟩
  · rw [h1]
    exact ⟨rfl, ⟨h.burnt, h.up, .inr ⟨rfl, by rw [List.length_append]; omega⟩⟩, by simp [addK, findK, updK]⟩
theorem GInv.sync {L : List UInt8} {n : Nat} {S : Bx} (h : GInv L n S) (hf : S.files ≠ []) : (S.sync [102]).2 = 0 ∧ GInv L L.length (S.sync [102]).1 := by
  rcases h.file with ⟨h1, h2, h3⟩ | ⟨h1, hn⟩
  · exact absurd h1 hf
  · rw [Bx.sync_some h.up (f := ⟨L, n⟩) (by rw [h1]; rfl), Bx.change_yes (by rw [h.fuel]; decide), h1]
    exact ⟨rfl, ⟨h.burnt, h.up, .inr ⟨rfl, by omega⟩⟩⟩
theorem GInv.crash {L : List UInt8} {n : Nat} {S : Bx} (h : GInv L n S) (ks : List Int) : ∃ j, n ≤ j ∧ j ≤ L.length ∧ ((j = 0 ∧ (S.crash ks).read [102] = ([], 31)) ∨ (0 < j ∧ (S.crash ks).read [102] = (L.take j, 0))) := by
  rcases h.file with ⟨h1, h2, h3⟩ | ⟨h1, hn⟩
  · refine ⟨0, by omega, by omega, .inl ⟨rfl, ?_⟩⟩
    unfold Bx.crash
    rw [h1]; rfl
  · refine ⟨leftN ks 0 ⟨L, n⟩, ?_, ?_, ?_⟩
    · unfold leftN; split <;> simp
    · unfold leftN; split <;> simp_all; omega
    · unfold Bx.crash
      rw [h1]
      by_cases h0 : 0 < leftN ks 0 ⟨L, n⟩
      · refine .inr ⟨h0, ?_⟩
        have : (crashL ks [(([102] : Key), (⟨L, n⟩ : FileS))]).1 = [([102], ⟨L.take (leftN ks 0 ⟨L, n⟩), leftN ks 0 ⟨L, n⟩⟩)] := by
          simp [crashL, crashStep, h0, insK]
        rw [this]; rfl
      · refine .inl ⟨by omega, ?_⟩
        have : (crashL ks [(([102] : Key), (⟨L, n⟩ : FileS))]).1 = [] := by
          simp [crashL, crashStep, h0]
        rw [this]; rfl

set_option maxHeartbeats 1000000 in
set_option maxRecDepth 100000 in
theorem parts_walk (a0 : Option Addr) (l0 c0 : Nat) (ss : List ByteArray) (a1 : Option Addr) (l1 c1 : Nat) (ts : List ByteArray) (v : Value) (ks : List Int) (w : World)
    (h0 : Row1 w a0 l0 (fun i => .string (ss.getD i ByteArray.empty))) (hs : ss.length = l0) (h1 : Row1 w a1 l1 (fun i => .string (ts.getD i ByteArray.empty))) (ht : ts.length = l1) (hk : IntsAt (fun k => w.heap.size ≤ k) w v ks)
    (hB : sizes ss + ss.length + (sizes ts + ts.length) ≤ 1048576) :
    Calls Try.prog 4 #[.slice a0 l0 c0, .slice a1 l1 c1, v] w fun e w' => e = .returned (.bool true) ∧ Below w.heap.size w w' := by
  have m0 := h0.max
  have m1 := h1.max
  obtain rfl := hs
  obtain rfl := ht
  go_enter Try.func4, Try.ntmps4
  go_wp2_with fail
  refine (awake3_any _).mono ?_
  rintro e w1 ⟨rfl, b1⟩
  go_wp2_with fail
  refine (own_new w.heap.size _ b1.size).mono ?_
  rintro e w2 ⟨p, rfl, h2, c2⟩
  have B2 := Lib.hid (below_next b1 (Nat.le_refl _) c2)
  have H2 := Lib.hid h2
  have H0 := Lib.hid h0
  have H1 := Lib.hid h1
  have HK := Lib.hid hk
  clear b1 c2 h2 h0 h1 hk
  go_wp2
  go_loopw [8, 21] (fun av iv wr => ∃ (k : Nat) (t : ByteArray) (S : Bx), k ≤ ss.length ∧ iv = .int .i64 (k : Int) ∧ av = .string t ∧ t.size ≤ 1048576 ∧ Hid (t.size = sizes (ss.take k)) ∧ Hid (GInv t.data.toList 0 S) ∧ Hid (0 < k → S.files ≠ []) ∧ Hid (Own w.heap.size wr p S) ∧ Hid (Below w.heap.size w wr)) (fun _ iv _ => ss.length - (intOf iv).toNat)
  case atStart => exact ⟨0, ⟨#[]⟩, _, by omega, rfl, rfl, by decide, rfl, GInv.start, (fun h => by omega), H2.out, B2.out⟩
  case round =>
    clear H2 B2
    obtain ⟨k, t, S, hk, rfl, rfl, htz, HZ, HI, HE, HO, HB⟩ := hrel
    by_cases hlt : k < ss.length
    · obtain ⟨b, off, rfl, hcell⟩ := H0.out.in HB.out hlt
      have hget : ss.getD k ByteArray.empty = ss[k] := by simp [List.getD, hlt]
      rw [hget] at hcell
      have hz1 := sizes_take hlt
      have hz2 := sizes_mono ss (k + 1)
      have hz := HZ.out
      have hsk : ss[k].size ≤ 1048576 := by omega
      have hts : (t ++ ss[k]).size ≤ 1048576 := by rw [concat_size]; omega
      have HZ2 : Hid ((t ++ ss[k]).size = sizes (ss.take (k + 1))) := by show _ = _; rw [concat_size]; omega
      generalize ss[k] = x at *
      clear hget hz hz1 hz2
      have hwg := HI.out.small
      have htl : t.data.toList.length = t.size := by simp
      obtain ⟨hr, hI2, hne⟩ := HI.out.append x.data.toList
      rw [← concat_form rfl rfl] at hI2
      have HI2 := Lib.hid hI2
      have HE2 := Lib.hid (fun (_ : 0 < k + 1) => hne)
      have hwb : weigh S.files + x.size ≤ 140737488355328 := by omega
      clear hI2 hne htl hwg
      go_wp2_with fail
      refine (own_append HO.out HB.out.size ⟨#[102]⟩ x (by decide) hwb).mono ?_
      rintro e w3 ⟨rfl, h3, c3⟩
      rw [show (S.append (ByteArray.mk #[102]).data.toList x.data.toList).2 = 0 from hr]
      have H3 := Lib.hid h3
      have B3 := Lib.hid (HB.out.trans c3)
      clear h3 c3 hr hcell
      go_wp2
      go_roundw
      case rel => exact ⟨k + 1, _, _, by omega, by go_num, rfl, hts, HZ2, HI2, HE2, H3, B3⟩
      case measure => simp [intOf]; omega
    · obtain rfl : k = ss.length := by omega
      have htz2 : t.size ≤ sizes ss := by have := HZ.out; have := sizes_mono ss ss.length; omega
      clear HZ
      by_cases hl0 : ss.length = 0
      · have HI5 := HI
        have H5 := HO
        have B5 := HB
        have HL := Lib.hid hl0
        have hlz : ¬ (0 : Int) < (ss.length : Int) := by omega
        clear HI HO HB hl0
        go_wp2
        go_loopw [8, 43] (fun av iv wr2 => ∃ (k : Nat) (t2 : ByteArray) (S2 : Bx), k ≤ ts.length ∧ iv = .int .i64 (k : Int) ∧ av = .string t2 ∧ t2.size ≤ 1048576 ∧ Hid (t2.size = t.size + sizes (ts.take k)) ∧ Hid (GInv t2.data.toList 0 S2) ∧ Hid (Own w.heap.size wr2 p S2) ∧ Hid (Below w.heap.size w wr2)) (fun _ iv _ => ts.length - (intOf iv).toNat)
        case atStart => exact ⟨0, t, _, by omega, rfl, rfl, htz, by show _ = _; simp [sizes], HI5.out, H5.out, B5.out⟩
        case round =>
          clear H5 B5 HI5
          obtain ⟨k, t2, S2, hk, rfl, rfl, htz2', HZ, HI, HO, HB⟩ := hrel
          by_cases hlt2 : k < ts.length
          · obtain ⟨b, off, rfl, hcell⟩ := H1.out.in HB.out hlt2
            have hget : ts.getD k ByteArray.empty = ts[k] := by simp [List.getD, hlt2]
            rw [hget] at hcell
            have hz1 := sizes_take hlt2
            have hz2 := sizes_mono ts (k + 1)
            have hz := HZ.out
            have hsk : ts[k].size ≤ 1048576 := by omega
            have hts : (t2 ++ ts[k]).size ≤ 1048576 := by rw [concat_size]; omega
            have HZ2 : Hid ((t2 ++ ts[k]).size = t.size + sizes (ts.take (k + 1))) := by show _ = _; rw [concat_size]; omega
            generalize ts[k] = x at *
            clear hget hz hz1 hz2
            have hwg := HI.out.small
            have htl : t2.data.toList.length = t2.size := by simp
            obtain ⟨hr, hI2, hne⟩ := HI.out.append x.data.toList
            rw [← concat_form rfl rfl] at hI2
            have HI2 := Lib.hid hI2
            have hwb : weigh S2.files + x.size ≤ 140737488355328 := by omega
            clear hI2 hne htl hwg
            go_wp2_with fail
            refine (own_append HO.out HB.out.size ⟨#[102]⟩ x (by decide) hwb).mono ?_
            rintro e w3 ⟨rfl, h3, c3⟩
            rw [show (S2.append (ByteArray.mk #[102]).data.toList x.data.toList).2 = 0 from hr]
            have H3 := Lib.hid h3
            have B3 := Lib.hid (HB.out.trans c3)
            clear h3 c3 hr hcell
            go_wp2
            go_roundw
            case rel => exact ⟨k + 1, _, _, by omega, by go_num, rfl, hts, HZ2, HI2, H3, B3⟩
            case measure => simp [intOf]; omega
          · have hwg := HI.out.small
            have htl : t2.data.toList.length = t2.size := by simp
            have hbx := BoxAt.tight HO.out
            have hks : IntsAt (fun k => w.heap.size ≤ k ∧ k < wr.heap.size) wr v ks := (HK.out.turn (turn_of w.heap.size HB.out) (fun k hk => hk)).fit (fun k hk => .inl hk.1)
            obtain ⟨j, hj1, hj2, hj⟩ := HI.out.crash ks
            have hwk : weigh S2.files ≤ 8796093022208 := by omega
            clear hwg
            go_wp2_with fail
            refine (own_crash hbx HB.out.size hks hwk).mono ?_
            rintro e w6 ⟨q, rfl, h6, h7, c6⟩
            have B6 := Lib.hid (HB.out.trans c6)
            have H7 := Lib.hid h7
            clear h6 h7 c6 hbx hks
            rcases hj with ⟨rfl, hr⟩ | ⟨hj0, hr⟩
            · have hz0 := hj1
              go_wp2_with fail
              refine (box_read H7.out ⟨#[102]⟩ (by decide)).mono ?_
              rintro e w7 ⟨rfl, rfl⟩
              rw [show (S2.crash ks).read (ByteArray.mk #[102]).data.toList = ([], 31) from hr]
              unfold tx
              clear hr
              go_wp2
              go_ret
              exact ⟨rfl, B6.out⟩
            · obtain ⟨x, hx⟩ : ∃ x : ByteArray, x = ⟨(t2.data.toList.take j).toArray⟩ := ⟨_, rfl⟩
              have hxs : x.size = j := by
                rw [hx]
                show (t2.data.toList.take j).toArray.size = j
                rw [List.size_toArray, List.length_take]
                omega
              have hxe : t2.extract 0 x.size = x := by
                apply ByteArray.ext
                apply Array.toList_inj.1
                rw [Lib.extract_data, hxs, hx]
                simp
              have hxt : tx (t2.data.toList.take j) = .string x := by rw [hx]; rfl
              have hx1 : x.size ≤ t2.size := by omega
              have HXS := Lib.hid hxs
              have hcmp : 0 ≤ x.size := by omega
              have h00 : ¬ (x.size : Int) < 0 := by omega
              clear hx hxs htl
              go_wp2_with fail
              refine (box_read H7.out ⟨#[102]⟩ (by decide)).mono ?_
              rintro e w7 ⟨rfl, rfl⟩
              rw [show (S2.crash ks).read (ByteArray.mk #[102]).data.toList = (t2.data.toList.take j, 0) from hr, hxt]
              clear hr hxt
              go_wp2
              go_ret
              exact ⟨rfl, B6.out⟩
      · have hlz : (0 : Int) < (ss.length : Int) := by omega
        obtain ⟨hr, hI⟩ := HI.out.sync (HE.out (by omega))
        have HI5 := Lib.hid hI
        clear hI
        go_wp2_with fail
        refine (own_sync HO.out HB.out.size ⟨#[102]⟩ (by decide)).mono ?_
        rintro e w5 ⟨rfl, h5, c5⟩
        rw [show (S.sync (ByteArray.mk #[102]).data.toList).2 = 0 from hr]
        have H5 := Lib.hid h5
        have B5 := Lib.hid (HB.out.trans c5)
        have htl0 : t.data.toList.length = t.size := by simp
        rw [htl0] at HI5
        clear h5 c5 HI HO HB hr htl0
        go_wp2
        go_loopw [8, 43] (fun av iv wr2 => ∃ (k : Nat) (t2 : ByteArray) (S2 : Bx), k ≤ ts.length ∧ iv = .int .i64 (k : Int) ∧ av = .string t2 ∧ t2.size ≤ 1048576 ∧ Hid (t2.size = t.size + sizes (ts.take k)) ∧ Hid (GInv t2.data.toList t.size S2) ∧ Hid (Own w.heap.size wr2 p S2) ∧ Hid (Below w.heap.size w wr2)) (fun _ iv _ => ts.length - (intOf iv).toNat)
        case atStart => exact ⟨0, t, _, by omega, rfl, rfl, htz, by show _ = _; simp [sizes], HI5.out, H5.out, B5.out⟩
        case round =>
          clear H5 B5 HI5
          obtain ⟨k, t2, S2, hk, rfl, rfl, htz2', HZ, HI, HO, HB⟩ := hrel
          by_cases hlt2 : k < ts.length
          · obtain ⟨b, off, rfl, hcell⟩ := H1.out.in HB.out hlt2
            have hget : ts.getD k ByteArray.empty = ts[k] := by simp [List.getD, hlt2]
            rw [hget] at hcell
            have hz1 := sizes_take hlt2
            have hz2 := sizes_mono ts (k + 1)
            have hz := HZ.out
            have hsk : ts[k].size ≤ 1048576 := by omega
            have hts : (t2 ++ ts[k]).size ≤ 1048576 := by rw [concat_size]; omega
            have HZ2 : Hid ((t2 ++ ts[k]).size = t.size + sizes (ts.take (k + 1))) := by show _ = _; rw [concat_size]; omega
            generalize ts[k] = x at *
            clear hget hz hz1 hz2
            have hwg := HI.out.small
            have htl : t2.data.toList.length = t2.size := by simp
            obtain ⟨hr, hI2, hne⟩ := HI.out.append x.data.toList
            rw [← concat_form rfl rfl] at hI2
            have HI2 := Lib.hid hI2
            have hwb : weigh S2.files + x.size ≤ 140737488355328 := by omega
            clear hI2 hne htl hwg
            go_wp2_with fail
            refine (own_append HO.out HB.out.size ⟨#[102]⟩ x (by decide) hwb).mono ?_
            rintro e w3 ⟨rfl, h3, c3⟩
            rw [show (S2.append (ByteArray.mk #[102]).data.toList x.data.toList).2 = 0 from hr]
            have H3 := Lib.hid h3
            have B3 := Lib.hid (HB.out.trans c3)
            clear h3 c3 hr hcell
            go_wp2
            go_roundw
            case rel => exact ⟨k + 1, _, _, by omega, by go_num, rfl, hts, HZ2, HI2, H3, B3⟩
            case measure => simp [intOf]; omega
          · have hwg := HI.out.small
            have htl : t2.data.toList.length = t2.size := by simp
            have hbx := BoxAt.tight HO.out
            have hks : IntsAt (fun k => w.heap.size ≤ k ∧ k < wr.heap.size) wr v ks := (HK.out.turn (turn_of w.heap.size HB.out) (fun k hk => hk)).fit (fun k hk => .inl hk.1)
            obtain ⟨j, hj1, hj2, hj⟩ := HI.out.crash ks
            have hwk : weigh S2.files ≤ 8796093022208 := by omega
            clear hwg
            go_wp2_with fail
            refine (own_crash hbx HB.out.size hks hwk).mono ?_
            rintro e w6 ⟨q, rfl, h6, h7, c6⟩
            have B6 := Lib.hid (HB.out.trans c6)
            have H7 := Lib.hid h7
            clear h6 h7 c6 hbx hks
            rcases hj with ⟨rfl, hr⟩ | ⟨hj0, hr⟩
            · obtain rfl : t = ⟨#[]⟩ := by
                apply ByteArray.ext
                apply Array.eq_empty_of_size_eq_zero
                have : t.data.toList.length = t.size := by simp
                show t.size = 0
                omega
              go_wp2_with fail
              refine (box_read H7.out ⟨#[102]⟩ (by decide)).mono ?_
              rintro e w7 ⟨rfl, rfl⟩
              rw [show (S2.crash ks).read (ByteArray.mk #[102]).data.toList = ([], 31) from hr]
              unfold tx
              clear hr
              go_wp2
              go_ret
              exact ⟨rfl, B6.out⟩
            · obtain ⟨x, hx⟩ : ∃ x : ByteArray, x = ⟨(t2.data.toList.take j).toArray⟩ := ⟨_, rfl⟩
              have hxs : x.size = j := by
                rw [hx]
                show (t2.data.toList.take j).toArray.size = j
                rw [List.size_toArray, List.length_take]
                omega
              have hxe : t2.extract 0 x.size = x := by
                apply ByteArray.ext
                apply Array.toList_inj.1
                rw [Lib.extract_data, hxs, hx]
                simp
              have hxt : tx (t2.data.toList.take j) = .string x := by rw [hx]; rfl
              have hx1 : x.size ≤ t2.size := by omega
              have HXS := Lib.hid hxs
              have hcmp : t.size ≤ x.size := by omega
              have h00 : ¬ (x.size : Int) < 0 := by omega
              clear hx hxs htl
              go_wp2_with fail
              refine (box_read H7.out ⟨#[102]⟩ (by decide)).mono ?_
              rintro e w7 ⟨rfl, rfl⟩
              rw [show (S2.crash ks).read (ByteArray.mk #[102]).data.toList = (t2.data.toList.take j, 0) from hr, hxt]
              clear hr hxt
              go_wp2
              go_ret
              exact ⟨rfl, B6.out⟩
end Go.Proofs.Ytnjphflaggefeaa

/- Layer 6: the contract of the reference's Make. -/
import Derived.Test.YtfphfnpdibehnaaR06c
import Derived.Test.YtfphfnpdibehnaaW00
import Derived.Test.YtfphfnpdibehnaaM01t
import Derived.Laws.MakeOwn
import Derived.RegionTactic
import Derived.BigRegion
namespace Go.Proofs.Ytfphfnpdibehnaa
open Go.RowKit
set_option linter.unusedVariables false

/-- Bytes in a block of their own. -/
def cells8 (l : List UInt8) : Array Value := (l.map bv).toArray
def Byte8 (w : World) (B : Nat) (l : List UInt8) : Prop := w.heap[B]? = some (.cells (cells8 l) 5 (0, 0))
theorem cells8_at {l : List UInt8} {i : Nat} (h : i < l.length) : (cells8 l)[i]? = some (bv l[i]) := by simp [cells8, h]
theorem cells8_set (l : List UInt8) (i : Nat) (x : UInt8) : (cells8 l).setIfInBounds i (bv x) = cells8 (l.set i x) := by simp [cells8, List.map_set]
theorem Byte8.set {w : World} {B : Nat} {l : List UInt8} (h : Byte8 w B l) (i : Nat) (x : UInt8) : Byte8 (w.setCell ⟨B, i, none⟩ (bv x)) B (l.set i x) := by
  unfold Byte8
  rw [← cells8_set]
  exact block_set h i _
theorem Byte8.own {w : World} {B : Nat} {l : List UInt8} (h : Byte8 w B l) (hl : l.length ≤ maxLen) : w.ownsRow 0 5 1 (.slice (some ⟨B, 0, none⟩) l.length l.length) l.length (l.map bv) :=
  ⟨by simp, .inr ⟨B, l.length, cells8 l, rfl, Nat.zero_le _, h, Nat.le_refl _, hl, by simp [cells8], by simp [cells8, List.take_of_length_le]⟩⟩
theorem made_zeros (n : Nat) : madeCells (Value.int .u8 0).cells (n * 1) = cells8 (List.replicate n 0) := by
  apply Array.ext_getElem?
  intro i
  by_cases h : i < n
  · rw [cells8_at (by simpa using h)]
    simp [madeCells, Value.cells, h, bv, Nat.mod_one]
  · rw [Array.getElem?_eq_none (by simp [madeCells]; omega), Array.getElem?_eq_none (by simp [cells8]; omega)]
theorem or_bit (x : UInt8) {r : Nat} (h : r < 8) : bits .or .u8 (x.toNat : Int) ((2 : Int) ^ r % 256) = ((x ||| (1 <<< UInt8.ofNat r)).toNat : Int) := by
  have hx := UInt8.toNat_lt x
  have hp : 2 ^ r ≤ 2 ^ 7 := Nat.pow_le_pow_right (by omega) (by omega)
  have hp0 : 0 < 2 ^ r := Nat.pow_pos (by omega)
  have e1 : (2 : Int) ^ r % 256 = ((2 ^ r : Nat) : Int) := by
    rw [show (2 : Int) ^ r = ((2 ^ r : Nat) : Int) by simp]
    omega
  rw [e1, u8_or_nat _ _ (by omega) (by omega), UInt8.toNat_or, one_shl r h]

theorem setBit_at {l : List UInt8} {k j r : Nat} (hj : k / 8 = j) (hr : k % 8 = r) (h : j < l.length) : setBit l k = l.set j (l[j] ||| (1 <<< UInt8.ofNat r)) := by
  have e : l.getD j 0 = l[j] := by simp [List.getD, h]
  unfold setBit
  rw [hj, hr, e]
theorem split8 {K j r : Nat} (hj : K / 8 = j) (hr : K % 8 = r) : ((K : Int).tdiv 8) = (j : Int) ∧ ((K : Int) / 8) = (j : Int) ∧ ((K : Int).tmod 8) = (r : Int) ∧ ((K : Int) % 8) = (r : Int) ∧ r < 8 := by
  have d2 : ((K : Int) / 8) = (j : Int) := by omega
  have d5 : ((K : Int) % 8) = (r : Int) := by omega
  exact ⟨by rw [Int.tdiv_eq_ediv_of_nonneg (Int.natCast_nonneg _)]; exact d2, d2, by rw [Int.tmod_eq_emod_of_nonneg (Int.natCast_nonneg _)]; exact d5, d5, by omega⟩
theorem wrap_small {j : Nat} (h : j ≤ 8192) : wrap64 (j : Int) = (j : Int) := IntWalk.wrap64_in _ (by omega)
theorem wrapi_small {j : Nat} (h : j ≤ 8192) : IntKind.i64.wrap (j : Int) = (j : Int) := by rw [IntKind.wrap_i64]; omega
/-- What Make answers. -/
@[irreducible] def makeS (ks : List ByteArray) (n : Int) : ByteArray := if 1 ≤ n ∧ n ≤ 8192 then ⟨(makeL ks n.toNat).toArray⟩ else ⟨#[]⟩
@[irreducible] def makeE (n : Int) : Nat := if 1 ≤ n ∧ n ≤ 8192 then 0 else 1

set_option maxHeartbeats 2000000 in
set_option maxRecDepth 100000 in
theorem rmake_any (a : Option Addr) (c : Nat) (ks : List ByteArray) (w : World) (h : Row1 w a ks.length (fun i => .string (ks.getD i ByteArray.empty))) (hs : ∀ i, (ks.getD i ByteArray.empty).size ≤ maxLen) (n : Int) (hn : (Lit.int .i64 n).wf = true) :
    Calls Try.prog 11 #[.slice a ks.length c, .int .i64 n] w fun e w' => e = .returned (.tuple #[.string (makeS ks n), .int .i64 (makeE n : Nat)]) ∧ Below w.heap.size w w' := by
  have hnb := bounds_i64 hn
  have hmax := h.max
  clear hn
  by_cases hr : 1 ≤ n ∧ n ≤ 8192
  · obtain ⟨m, rfl⟩ : ∃ m : Nat, n = (m : Int) := ⟨n.toNat, by omega⟩
    have eS : makeS ks (m : Int) = ⟨(makeL ks m).toArray⟩ := by unfold makeS; rw [if_pos hr]; simp
    have eE : makeE (m : Int) = 0 := by unfold makeE; rw [if_pos hr]
    rw [eS, eE]
    obtain ⟨hr1, hr2⟩ := hr
    have hm8 : m ≤ 8192 := by omega
    have hm0 : 0 < m := by omega
    obtain ⟨i0, hi, hz0, hz1, hz2⟩ := info_parts infoU8
    have hmk := run_make (P := Try.prog) w 42 5 i0 (.int .u8 0) Try.underlying42 hi hz0 .i64 .i64 (m : Int) (m : Int) (by omega) (by omega) (by rw [hz2]; omega) (by omega)
    rw [hz1, Int.toNat_natCast, made_zeros] at hmk
    have hB0 : Byte8 (w.alloc (.cells (cells8 (List.replicate m 0)) 5)) w.heap.size (List.replicate m 0) := heap_alloc_new _ _
    have hb0 : Below w.heap.size w (w.alloc (.cells (cells8 (List.replicate m 0)) 5)) := (Below.refl _ w).alloc (Nat.le_refl _) _
    have H := Lib.hid h
    have HS := Lib.hid hs
    have HB0 := Lib.hid hB0
    have Hb0 := Lib.hid hb0
    clear h hs hB0 hb0 eS eE hi hz0 hz1 hz2
    go_enter Try.func11, Try.ntmps11
    go_wp2
    generalize w.alloc (.cells (cells8 (List.replicate m 0)) 5) = W0 at *
    go_loopw [7] (fun iv wr => ∃ k : Nat, k ≤ ks.length ∧ iv = .int .i64 (k : Int) ∧ Hid (Byte8 wr w.heap.size (makeL (ks.take k) m) ∧ Below w.heap.size w wr)) (fun iv _ => ks.length - (intOf iv).toNat)
    case atStart =>
      have e : makeL (ks.take 0) m = List.replicate m 0 := by unfold makeL; rfl
      exact ⟨0, by omega, rfl, by rw [e]; exact HB0.out, Hb0.out⟩
    case round =>
      clear HB0 Hb0
      obtain ⟨k, hk, rfl, HR⟩ := hrel
      by_cases hlt : k < ks.length
      · obtain ⟨b, off, ha, hbl, hc⟩ := H.out.at hlt
        subst ha
        have hck : wr.cell? ⟨b, off + k, none⟩ = some (.string (ks.getD k ByteArray.empty)) := (HR.out.2.cell hbl).trans hc
        have hgd : ks.getD k ByteArray.empty = ks[k] := by simp [List.getD, hlt]
        have hsz := HS.out k
        have HN := Lib.hid (makeL_next hlt m)
        have hlen := makeL_len (ks.take k) m
        rw [hgd] at hck hsz
        generalize ks[k] = s at *
        generalize makeL (ks.take k) m = L at *
        have hcall := fun w => rbits_any s hsz m hm0 hm8 w
        have hfl := bitK_lt s (n := m) hm0
        have HST : Hid (∀ q, setsK L s (q + 1) = setBit (setsK L s q) (bitK s m q)) := fun q => by rw [setsK_next, hlen]
        have HSL := Lib.hid (fun q => (setsK_len L s q).trans hlen)
        have HS4 : Hid (setsK L s 4 = setK L s) := rfl
        have HS0 : Hid (setsK L s 0 = L) := rfl
        generalize bitK s m = f at *
        clear hc hgd hsz
        go_wp2_with fail
        refine (hcall _).mono ?_
        rintro e w1 ⟨rfl, b1⟩
        have hB1 : Byte8 w1 w.heap.size L := (b1.block _ (block_lt HR.out.1)).trans HR.out.1
        have hlow : w.heap.size + 1 ≤ w1.heap.size := by have := b1.size; have := block_lt HR.out.1; omega
        have hw1 : Below w.heap.size w w1 := HR.out.2.trans (b1.mono (by have := block_lt HR.out.1; omega))
        have hnA := heap_alloc_new w1 (.cells (four f) 46)
        have hbA : Below w1.heap.size w1 (w1.alloc (.cells (four f) 46)) := (Below.refl _ w1).alloc (Nat.le_refl _) _
        have HI : Hid (Byte8 (w1.alloc (.cells (four f) 46)) w.heap.size L ∧ (w1.alloc (.cells (four f) 46)).heap[w1.heap.size]? = some (.cells (four f) 46 (0, 0)) ∧ Below w.heap.size w (w1.alloc (.cells (four f) 46))) :=
          ⟨(hbA.block _ (by omega)).trans hB1, hnA, hw1.trans (hbA.mono (by omega))⟩
        clear hB1 hw1 hnA hbA b1 hcall HR hck
        unfold four at HI
        unfold four
        go_wp2
        generalize w1.alloc (.cells #[.int .i64 (f 0 : Nat), .int .i64 (f 1 : Nat), .int .i64 (f 2 : Nat), .int .i64 (f 3 : Nat)] 46) = W1 at *
        generalize w1.heap.size = ab at *
        go_loopw [9] (fun iv wr => ∃ q : Nat, q ≤ 4 ∧ iv = .int .i64 (q : Int) ∧ Hid (Byte8 wr w.heap.size (setsK L s q) ∧ wr.heap[ab]? = some (.cells (four f) 46 (0, 0)) ∧ Below w.heap.size w wr)) (fun iv _ => 4 - (intOf iv).toNat)
        case atStart => exact ⟨0, by omega, rfl, by rw [HS0.out]; exact HI.out⟩
        case round =>
          clear HI
          obtain ⟨q, hq, rfl, HR⟩ := hrel
          by_cases hlq : q < 4
          · have g1 := HR.out.1
            have c0 : wr.cell? ⟨ab, q, none⟩ = some (.int .i64 (f q : Nat)) := by rw [block_cell HR.out.2.1]; exact four_at f hlq
            have hf := hfl q
            have hl := HSL.out q
            have HN2 := Lib.hid (HST.out q)
            have HRX := HR
            generalize setsK L s q = L' at *
            generalize f q = K at *
            obtain ⟨j, hj⟩ : ∃ j, K / 8 = j := ⟨_, rfl⟩
            obtain ⟨r, hr⟩ : ∃ r, K % 8 = r := ⟨_, rfl⟩
            have hjl : j < L'.length := by omega
            have cB : wr.cell? ⟨w.heap.size, j, none⟩ = some (bv L'[j]) := by rw [block_cell g1]; exact cells8_at hjl
            have fB : wr.frozen? ⟨w.heap.size, j, none⟩ = false := block_free g1 j
            have hB := setBit_at hj hr hjl
            have hOB := or_bit L'[j] (r := r) (split8 hj hr).2.2.2.2
            obtain ⟨X, hX⟩ : ∃ X, L'[j] ||| (1 <<< UInt8.ofNat r) = X := ⟨_, rfl⟩
            rw [hX] at hB hOB
            have HB := Lib.hid hB
            have HOB := Lib.hid hOB
            clear hX hB hOB
            obtain ⟨d1, d2, d4, d5, hrlt⟩ := split8 hj hr
            have d3 : wrap64 (j : Int) = (j : Int) := wrap_small (Nat.le_of_lt (Nat.lt_of_lt_of_le (by rw [← hl]; exact hjl) hm8))
            have hjm : j < m := by rw [← hl]; exact hjl
            have d6 : IntKind.i64.wrap (j : Int) = (j : Int) := wrapi_small (Nat.le_of_lt (Nat.lt_of_lt_of_le hjm hm8))
            have hj1 : (0 : Int) ≤ (j : Int) := Int.natCast_nonneg _
            have hj2 : (j : Int) < (m : Int) := Int.ofNat_lt.2 hjm
            have hrr1 : (0 : Int) ≤ (r : Int) := Int.natCast_nonneg _
            have hrr2 : (r : Int) ≤ 8 := Int.ofNat_le.2 (Nat.le_of_lt hrlt)
            unfold bv at cB
            clear hj hr hf hl g1 HR
            go_wp2_with fail
            go_region
            rw [HOB.out]
            have HS8 := Lib.hid (HRX.out.1.set j X)
            have HS9 : Hid ((wr.setCell ⟨w.heap.size, j, none⟩ (bv X)).heap[ab]? = some (.cells (four f) 46 (0, 0))) := (block_other (by omega)).trans HRX.out.2.1
            have HSB : Hid (Below w.heap.size w ((wr.setCell ⟨w.heap.size, j, none⟩ (bv X)).drew)) := (HRX.out.2.2.setCell (p := ⟨w.heap.size, j, none⟩) (Nat.le_refl _) (bv X)).drew
            unfold bv at HS8 HS9 HSB
            go_wp2
            go_roundw
            case rel => exact ⟨q + 1, by omega, by go_num, by rw [HN2.out, HB.out]; exact ⟨HS8.out, HS9.out, HSB.out⟩⟩
            case measure => simp [intOf]; omega
          · obtain rfl : q = 4 := by omega
            go_wp2
            go_roundw
            case rel => exact ⟨k + 1, by omega, by go_num, by rw [HN.out, ← HS4.out]; exact ⟨HR.out.1, HR.out.2.2⟩⟩
            case measure => simp [intOf]; omega
      · obtain rfl : k = ks.length := by omega
        have e : ks.take ks.length = ks := List.take_length
        rw [e] at HR
        have hlen := makeL_len ks m
        obtain ⟨L, hL⟩ : ∃ L, makeL ks m = L := ⟨_, rfl⟩
        have HLL := Lib.hid hL
        rw [hL] at HR hlen
        clear hL
        have hcv := conv_own (HR.out.1.own (by rw [hlen]; unfold maxLen; omega))
        rw [hlen] at hcv
        have HE := Lib.hid HR.out.2
        clear HR
        go_wp2
        go_ret2
        exact ⟨by rw [HLL.out]; rfl, HE.out⟩
  · have eS : makeS ks n = ⟨#[]⟩ := by unfold makeS; rw [if_neg hr]
    have eE : makeE n = 1 := by unfold makeE; rw [if_neg hr]
    rw [eS, eE]
    by_cases h2 : n < 1
    · go_enter Try.func11, Try.ntmps11
      go_wp2
      go_ret2
      exact ⟨rfl, Below.refl _ _⟩
    · have g2 : 8192 < n := by omega
      go_enter Try.func11, Try.ntmps11
      go_wp2
      go_ret2
      exact ⟨rfl, Below.refl _ _⟩
end Go.Proofs.Ytfphfnpdibehnaa

/- Layer 3: the walk of BoxApart. -/
import Derived.Test.YtnjphflaggefeaaW03n
import Derived.Test.YtnjphflaggefeaaM03b
import Derived.Test.YtnjphflaggefeaaM03c
namespace Go.Proofs.Ytnjphflaggefeaa
open Go.RowKit Go.Maps Go.WideMaps
set_option linter.unusedVariables false

theorem ap1_eq (m : ByteArray) : Bx.new.append [109, 105, 110, 101] m.data.toList = (⟨[([109, 105, 110, 101], ⟨m.data.toList, 0⟩)], -1, false⟩, 0) := rfl

set_option maxHeartbeats 1000000 in
set_option maxRecDepth 100000 in
theorem apart_walk (a0 : Option Addr) (l0 c0 : Nat) (cs : List CallS) (mine : ByteArray) (w : World)
    (h0 : CallsRow w a0 cs) (hs : cs.length = l0) (hB : callsW cs + mine.size ≤ 1048576) :
    Calls Try.prog 5 #[.slice a0 l0 c0, .string mine] w fun e w' => e = .returned (.bool true) ∧ Below w.heap.size w w' := by
  have m0 := h0.max
  obtain rfl := hs
  have hw0 : weigh Bx.new.files + mine.size ≤ 140737488355328 := by show 0 + _ ≤ _; omega
  go_enter Try.func5, Try.ntmps5
  go_wp2_with fail
  refine (awake3_any _).mono ?_
  rintro e w1 ⟨rfl, b1⟩
  go_wp2_with fail
  refine (own_new w.heap.size _ b1.size).mono ?_
  rintro e w2 ⟨p, rfl, h2, c2⟩
  have b2 := below_next b1 (Nat.le_refl _) c2
  clear b1 c2
  go_wp2_with fail
  refine (own_append h2 b2.size ⟨#[109, 105, 110, 101]⟩ mine (by decide) hw0).mono ?_
  rintro e w3 ⟨rfl, h3, c3⟩
  rw [show Bx.new.append (ByteArray.mk #[109, 105, 110, 101]).data.toList mine.data.toList = _ from ap1_eq mine] at h3
  rw [show Bx.new.append (ByteArray.mk #[109, 105, 110, 101]).data.toList mine.data.toList = _ from ap1_eq mine]
  have B3 := Lib.hid (b2.trans c3)
  have H3 := Lib.hid h3
  have H0 := Lib.hid h0
  clear h2 b2 h3 c3 h0
  go_wp2
  go_loopw [19] (fun iv wr => ∃ (k : Nat) (S : Bx), k ≤ cs.length ∧ iv = .int .i64 (k : Int) ∧ Hid (AInv [109, 105, 110, 101] mine.data.toList S) ∧ Hid (weigh S.files ≤ mine.size + 1 + callsW (cs.take k)) ∧ Hid (Own w.heap.size wr p S) ∧ Hid (Below w.heap.size w wr)) (fun iv _ => cs.length - (intOf iv).toNat)
  case atStart => exact ⟨0, _, by omega, rfl, ⟨rfl, rfl, _, rfl, rfl⟩, (by show weigh _ ≤ _; simp [weigh, callsW]), H3.out, B3.out⟩
  case round =>
    clear H3 B3
    obtain ⟨k, S, hk, rfl, HI, HW, HO, HB⟩ := hrel
    by_cases hlt : k < cs.length
    · obtain ⟨b, off, rfl, q0, q1, q2, q3, q4, hok⟩ := H0.out.at HB.out hlt
      have hz1 := callsW_take hlt
      have hz2 := callsW_mono cs (k + 1)
      have hz3 := HW.out
      have HOK := Lib.hid hok
      clear hok
      obtain ⟨⟨kv, kc, hkv, _⟩, _, _⟩ := HOK.out.ks
      generalize cs[k] = C at *
      obtain ⟨kind, nm, dt, num, kp, ks⟩ := C
      simp only at *
      subst hkv
      go_upto_region 9 with (fail)
      have hbl := (Below.refl wr.heap.size wr).alloc (Nat.le_refl _) (.cells #[.int .i64 kind, .string nm, .string dt, .int .i64 num, .slice kv ks.length kc] 30)
      have l0' : (wr.alloc (.cells #[.int .i64 kind, .string nm, .string dt, .int .i64 num, .slice kv ks.length kc] 30)).cell? ⟨wr.heap.size, 0, none⟩ = some (.int .i64 kind) := by rw [block_cell (heap_alloc_new _ _)]; rfl
      have l1 : (wr.alloc (.cells #[.int .i64 kind, .string nm, .string dt, .int .i64 num, .slice kv ks.length kc] 30)).cell? ⟨wr.heap.size, 1, none⟩ = some (.string nm) := by rw [block_cell (heap_alloc_new _ _)]; rfl
      have l2 : (wr.alloc (.cells #[.int .i64 kind, .string nm, .string dt, .int .i64 num, .slice kv ks.length kc] 30)).cell? ⟨wr.heap.size, 2, none⟩ = some (.string dt) := by rw [block_cell (heap_alloc_new _ _)]; rfl
      have l3 : True := trivial
      have HL := Lib.hid (HO.out.below hbl)
      have BL := Lib.hid (HB.out.trans (hbl.mono HB.out.size))
      have hnms : nm.size ≤ 1048576 := by omega
      have hdts : dt.size ≤ 1048576 := by omega
      clear hbl q0 q1 q2 q3 q4 HOK
      generalize wr.alloc (.cells #[.int .i64 kind, .string nm, .string dt, .int .i64 num, .slice kv ks.length kc] 30) = wl at *
      generalize wr.heap.size = lb at *
      by_cases hnm : nm = ⟨#[109, 105, 110, 101]⟩
      · subst hnm
        have HW5 : Hid (weigh S.files ≤ mine.size + 1 + callsW (cs.take (k + 1))) := by show _ ≤ _; omega
        clear hz1 hz2 hz3
        go_wp2
        go_roundw
        case rel => exact ⟨k + 1, _, by omega, by go_num, HI, HW5, HL, BL⟩
        case measure => simp [intOf]; omega
      · have hne : nm.data.toList ≠ [109, 105, 110, 101] := by
          intro h
          apply hnm
          apply ByteArray.ext
          exact Array.toList_inj.1 h
        have HNE := Lib.hid hne
        have hnb : (nm.toList == [109, 105, 110, 101]) = false := by rw [ByteArray.toList_eq]; simpa using hne
        have hdl : dt.data.toList.length = dt.size := by simp
        have hsw : weigh S.files + dt.size ≤ 140737488355328 := by omega
        clear hne
        by_cases k0 : kind = 0
        · subst k0
          go_wp2_with fail
          refine (own_append HL.out BL.out.size nm dt (by unfold maxLen; omega) hsw).mono ?_
          rintro e w5 ⟨rfl, h5, c5⟩
          have H5 := Lib.hid h5
          have B5 := Lib.hid (BL.out.trans c5)
          have HI5 := Lib.hid (HI.out.append HNE.out dt.data.toList)
          have HW5 : Hid (weigh (S.append nm.data.toList dt.data.toList).1.files ≤ mine.size + 1 + callsW (cs.take (k + 1))) := by
            show _ ≤ _
            have := S.append_weigh nm.data.toList dt.data.toList
            omega
          clear h5 c5 l0' l1 l2 l3
          go_wp2_with fail
          refine (box_read H5.out ⟨#[109, 105, 110, 101]⟩ (by decide)).mono ?_
          rintro e w7 ⟨rfl, rfl⟩
          rw [show (S.append nm.data.toList dt.data.toList).1.read (ByteArray.mk #[109, 105, 110, 101]).data.toList = (mine.data.toList, 0) from HI5.out.read, tx_data]
          go_wp2
          go_roundw
          case rel => exact ⟨k + 1, _, by omega, by go_num, HI5, HW5, H5, B5⟩
          case measure => simp [intOf]; omega
        · have k0' : (kind == 0) = false := by simp [k0]
          by_cases k1 : kind = 1
          · subst k1
            go_wp2_with fail
            refine (own_sync HL.out BL.out.size nm (by unfold maxLen; omega)).mono ?_
            rintro e w5 ⟨rfl, h5, c5⟩
            have H5 := Lib.hid h5
            have B5 := Lib.hid (BL.out.trans c5)
            have HI5 := Lib.hid (HI.out.sync HNE.out)
            have HW5 : Hid (weigh (S.sync nm.data.toList).1.files ≤ mine.size + 1 + callsW (cs.take (k + 1))) := by
              show _ ≤ _
              have := S.sync_weigh nm.data.toList
              omega
            clear h5 c5 l0' l1 l2 l3
            go_wp2_with fail
            refine (box_read H5.out ⟨#[109, 105, 110, 101]⟩ (by decide)).mono ?_
            rintro e w7 ⟨rfl, rfl⟩
            rw [show (S.sync nm.data.toList).1.read (ByteArray.mk #[109, 105, 110, 101]).data.toList = (mine.data.toList, 0) from HI5.out.read, tx_data]
            go_wp2
            go_roundw
            case rel => exact ⟨k + 1, _, by omega, by go_num, HI5, HW5, H5, B5⟩
            case measure => simp [intOf]; omega
          · have k1' : (kind == 1) = false := by simp [k1]
            by_cases k2 : kind = 2
            · subst k2
              go_wp2_with fail
              refine (own_delete HL.out BL.out.size nm (by unfold maxLen; omega)).mono ?_
              rintro e w5 ⟨rfl, h5, c5⟩
              have H5 := Lib.hid h5
              have B5 := Lib.hid (BL.out.trans c5)
              have HI5 := Lib.hid (HI.out.delete HNE.out)
              have HW5 : Hid (weigh (S.delete nm.data.toList).1.files ≤ mine.size + 1 + callsW (cs.take (k + 1))) := by
                show _ ≤ _
                have := S.delete_weigh nm.data.toList
                omega
              clear h5 c5 l0' l1 l2 l3
              go_wp2_with fail
              refine (box_read H5.out ⟨#[109, 105, 110, 101]⟩ (by decide)).mono ?_
              rintro e w7 ⟨rfl, rfl⟩
              rw [show (S.delete nm.data.toList).1.read (ByteArray.mk #[109, 105, 110, 101]).data.toList = (mine.data.toList, 0) from HI5.out.read, tx_data]
              go_wp2
              go_roundw
              case rel => exact ⟨k + 1, _, by omega, by go_num, HI5, HW5, H5, B5⟩
              case measure => simp [intOf]; omega
            · have k2' : (kind == 2) = false := by simp [k2]
              have HW5 : Hid (weigh S.files ≤ mine.size + 1 + callsW (cs.take (k + 1))) := by show _ ≤ _; omega
              go_wp2_with fail
              refine (box_read HL.out ⟨#[109, 105, 110, 101]⟩ (by decide)).mono ?_
              rintro e w7 ⟨rfl, rfl⟩
              rw [show S.read (ByteArray.mk #[109, 105, 110, 101]).data.toList = (mine.data.toList, 0) from HI.out.read, tx_data]
              go_wp2
              go_roundw
              case rel => exact ⟨k + 1, _, by omega, by go_num, HI, HW5, HL, BL⟩
              case measure => simp [intOf]; omega
    · obtain rfl : k = cs.length := by omega
      go_wp2
      go_ret
      exact ⟨rfl, HB.out⟩
end Go.Proofs.Ytnjphflaggefeaa

/- Layer 4: the walk of WalParts. -/
import Derived.Test.YtlgpkbcefaldoaaDoorW04j
import Derived.WalkArith
namespace Go.Proofs.YtlgpkbcefaldoaaDoor
open Go.RowKit Go.Maps Go.WideMaps Go.Shelf
set_option linter.unusedVariables false

theorem below_drewN2 {B : Nat} {w w' : World} (h : Below B w w') (n : Nat) : Below B w (w'.drewN n) := ⟨h.os, h.tape, h.output, h.size, h.block⟩
theorem wf_max {n : Int} (h : (Lit.int .i64 n).wf = true) : (Lit.int .i64 (max n 0)).wf = true := by
  have := bounds_i64 h
  exact WalkArith.wf_i64 ⟨by omega, by omega⟩

set_option maxHeartbeats 2000000 in
set_option maxRecDepth 100000 in
theorem parts4_walk (a0 : Option Addr) (l0 c0 : Nat) (ss : List ByteArray) (sy fu : Int) (v : Value) (ks : List Int) (w : World) (h0 : Row1 w a0 l0 (fun i => .string (ss.getD i ByteArray.empty))) (hs : ss.length = l0) (hcap : l0 ≤ c0)
    (hfu : (Lit.int .i64 fu).wf = true) (hk : IntsAt (fun k => w.heap.size ≤ k) w v ks) (hB : sizes ss + ss.length ≤ 1048576) (ht : Tab w) :
    Calls Tryd.prog 3 #[.agg #[.slice a0 l0 c0, .int .i64 sy, .int .i64 fu, v]] w fun e w' => e = .returned (.bool true) ∧ Below w.heap.size w w' := by
  have m0 := h0.max
  have HT := Lib.hid ht
  have hgl := ht.lt
  have H0 := Lib.hid h0
  have HK := Lib.hid hk
  have hub := bounds_i64 hfu
  obtain rfl := hs
  obtain ⟨⟨va, vc, rfl, _⟩, _, _⟩ := hk
  have hnew := heap_alloc_new w (.cells #[.slice a0 ss.length c0, .int .i64 sy, .int .i64 fu, .slice va ks.length vc] 25)
  have x0 : (w.alloc (.cells #[.slice a0 ss.length c0, .int .i64 sy, .int .i64 fu, .slice va ks.length vc] 25)).cell? ⟨w.heap.size, 0, none⟩ = some (.slice a0 ss.length c0) := by rw [block_cell hnew]; rfl
  have x1 : (w.alloc (.cells #[.slice a0 ss.length c0, .int .i64 sy, .int .i64 fu, .slice va ks.length vc] 25)).cell? ⟨w.heap.size, 1, none⟩ = some (.int .i64 sy) := by rw [block_cell hnew]; rfl
  have x2 : (w.alloc (.cells #[.slice a0 ss.length c0, .int .i64 sy, .int .i64 fu, .slice va ks.length vc] 25)).cell? ⟨w.heap.size, 2, none⟩ = some (.int .i64 fu) := by rw [block_cell hnew]; rfl
  have x3 : (w.alloc (.cells #[.slice a0 ss.length c0, .int .i64 sy, .int .i64 fu, .slice va ks.length vc] 25)).cell? ⟨w.heap.size, 3, none⟩ = some (.slice va ks.length vc) := by rw [block_cell hnew]; rfl
  have HBA := Lib.hid (((Below.refl _ w).alloc (Nat.le_refl _) (.cells #[.slice a0 ss.length c0, .int .i64 sy, .int .i64 fu, .slice va ks.length vc] 25)))
  have hfu2 := Lib.hid hfu
  clear h0 ht hfu hnew
  go_enter Tryd.func3, Tryd.ntmps3
  go_wp2
  go_quiet (fail)
  go_wp2_with fail
  refine (awake4_any (tab_later HT.out (below_drewN2 HBA.out _))).mono ?_
  rintro e w1 ⟨rfl, b1⟩
  have B1 := Lib.hid (below_next (below_drewN2 HBA.out _) (Nat.le_refl _) b1)
  clear b1 x0 x1 x2 x3
  go_wp2_with fail
  refine (own_new w.heap.size _ B1.out.size).mono ?_
  rintro e w2 ⟨p, rfl, h2, c2⟩
  have B2 := Lib.hid (below_next B1.out (Nat.le_refl _) c2)
  clear c2
  go_wp2_with fail
  refine (lo_open (nm := ⟨#[120]⟩) h2 B2.out.size (tab_later HT.out B2.out) hgl (by decide) (by decide) rfl (by decide) (by intro x hx; cases hx) (by decide)).mono ?_
  rintro e w3 ⟨q, v3, rfl, h3, ho3, c3⟩
  obtain ⟨vb, vd, rfl⟩ := ownsRow_slice ho3
  have B3 := Lib.hid (below_next B2.out (Nat.le_refl _) c3)
  have H3 : Hid (LogOwn w.heap.size w3 q p ⟨#[120]⟩ 1 false Bx.new) := h3
  clear h2 h3 ho3 c3
  go_wp2_with fail
  refine (lo_fuel H3.out (max fu 0) (wf_max hfu2.out)).mono ?_
  rintro e w4 ⟨rfl, h4, c4⟩
  have HST : Hid (PartRel w w4 q p ss 0 0) := by
    refine ⟨⟨_, [], [], 0, h4, ?_, rfl, Nat.le_refl _, Nat.le_refl _, by simp [weigh, Bx.new]⟩, B3.out.trans c4⟩
    exact (LInv.start [120]).same rfl
  clear h4 c4 H3
  go_wp2
  go_loopw [11, 12, 44] (fun fv nv iv wr => ∃ (k firm : Nat), k ≤ ss.length ∧ iv = .int .i64 (k : Int) ∧ nv = .int .i64 (k : Int) ∧ fv = .int .i64 (firm : Int) ∧ Hid (PartRel w wr q p ss k firm)) (fun _ _ iv _ => ss.length - (intOf iv).toNat)
  case atStart => exact ⟨0, 0, by omega, rfl, rfl, rfl, HST.out⟩
  case round =>
    clear HST
    obtain ⟨k, firm, hk, rfl, rfl, rfl, HR⟩ := hrel
    by_cases hlt : k < ss.length
    · obtain ⟨b, off, rfl, hcell⟩ := H0.out.in HR.out.below hlt
      have hget : ss.getD k ByteArray.empty = ss[k] := by simp [List.getD, hlt]
      rw [hget] at hcell
      have HAP := Lib.hid (part_append HR.out hlt hB)
      generalize ss[k] = x at *
      clear hget
      go_wp2_with fail
      refine HAP.out.mono ?_
      rintro e w5 (⟨n5, hn5, rfl, h5⟩ | ⟨rfl, h5⟩)
      · have hn5' : (n5 == 0) = false := by simp [hn5]
        have H5 := Lib.hid h5
        clear h5 hn5 hcell HAP HR
        have HPE : Hid (PartEnd w w5 q p ss firm) := ⟨⟨k, by omega, H5.out⟩⟩
        go_wp2_with fail
        refine (part_crash HPE.out hB HK.out).mono ?_
        rintro e w8 ⟨p2, rfl, hL⟩
        have HL := Lib.hid hL
        clear hL
        go_wp2_with fail
        refine (part_open HL.out hgl).mono ?_
        rintro e w9 ⟨q3, v3, t, rfl, ht1, ht2, ho9, c9⟩
        obtain ⟨xa, xc, rfl⟩ := ownsRow_slice ho9
        have HB9 := Lib.hid c9
        have HSM := Lib.hid (fun a' ha' c' => part_same (c0 := 0) H0.out c9 ht2 ho9 a' ha' c')
        clear ho9 c9
        go_wp2_with (go_at_call 14; refine (HSM.out _ (by first | exact .inr rfl | exact .inl (by omega)) _).mono ?_; rintro e w10 ⟨rfl, nn, rfl⟩)
        all_goals go_ret
        all_goals exact ⟨rfl, below_drewN2 HB9.out nn⟩
      · have H5 := Lib.hid h5
        clear h5 hcell HAP HR
        by_cases h3 : k % 3 = 2
        · have h3' : ((k : Int) % 3 == 2) = true := by simp; omega
          clear h3
          go_wp2_with fail
          refine (part_rotate H5.out hlt (by omega)).mono ?_
          rintro e w6 (⟨n6, hn6, rfl, h6⟩ | ⟨c6, rfl, h6⟩)
          · have hn6' : (n6 == 0) = false := by simp [hn6]
            have H6 := Lib.hid h6
            clear h6 hn6
            have HPE : Hid (PartEnd w w6 q p ss firm) := ⟨⟨k + 1, by omega, H6.out⟩⟩
            go_wp2_with fail
            refine (part_crash HPE.out hB HK.out).mono ?_
            rintro e w8 ⟨p2, rfl, hL⟩
            have HL := Lib.hid hL
            clear hL
            go_wp2_with fail
            refine (part_open HL.out hgl).mono ?_
            rintro e w9 ⟨q3, v3, t, rfl, ht1, ht2, ho9, c9⟩
            obtain ⟨xa, xc, rfl⟩ := ownsRow_slice ho9
            have HB9 := Lib.hid c9
            have HSM := Lib.hid (fun a' ha' c' => part_same (c0 := 0) H0.out c9 ht2 ho9 a' ha' c')
            clear ho9 c9
            go_wp2_with (go_at_call 14; refine (HSM.out _ (by first | exact .inr rfl | exact .inl (by omega)) _).mono ?_; rintro e w10 ⟨rfl, nn, rfl⟩)
            all_goals go_ret
            all_goals exact ⟨rfl, below_drewN2 HB9.out nn⟩
          · have H6 := Lib.hid h6
            clear h6
            by_cases hsy : (k : Int) = sy
            · go_wp2_with fail
              refine (part_sync_no H6.out).mono ?_
              rintro e w7 ⟨rfl, rfl⟩
              go_wp2
              go_roundw
              case rel => exact ⟨k + 1, k + 1, by omega, by go_num, by go_num, by go_num, H6.out.rel (by omega)⟩
              case measure => simp [intOf]; omega
            · go_wp2
              go_roundw
              case rel => exact ⟨k + 1, k + 1, by omega, by go_num, by go_num, by go_num, H6.out.rel (by omega)⟩
              case measure => simp [intOf]; omega
        · have h3' : ((k : Int) % 3 == 2) = false := by simp; omega
          clear h3
          by_cases hsy : (k : Int) = sy
          · go_wp2_with fail
            refine (part_sync H5.out hlt).mono ?_
            rintro e w7 (⟨n7, hn7, rfl, h7⟩ | ⟨rfl, h7⟩)
            · have hn7' : (n7 == 0) = false := by simp [hn7]
              have H7 := Lib.hid h7
              clear h7 hn7
              go_wp2
              go_roundw
              case rel => exact ⟨k + 1, firm, by omega, by go_num, by go_num, rfl, H7.out⟩
              case measure => simp [intOf]; omega
            · have H7 := Lib.hid h7
              clear h7
              go_wp2
              go_roundw
              case rel => exact ⟨k + 1, k + 1, by omega, by go_num, by go_num, by go_num, H7.out⟩
              case measure => simp [intOf]; omega
          · go_wp2
            go_roundw
            case rel => exact ⟨k + 1, firm, by omega, by go_num, by go_num, rfl, H5.out.rel⟩
            case measure => simp [intOf]; omega
    · obtain rfl : k = ss.length := by omega
      have HPE : Hid (PartEnd w wr q p ss firm) := ⟨⟨ss.length, Nat.le_refl _, HR.out⟩⟩
      go_wp2_with fail
      refine (part_crash HPE.out hB HK.out).mono ?_
      rintro e w8 ⟨p2, rfl, hL⟩
      have HL := Lib.hid hL
      clear hL
      go_wp2_with fail
      refine (part_open HL.out hgl).mono ?_
      rintro e w9 ⟨q3, v3, t, rfl, ht1, ht2, ho9, c9⟩
      obtain ⟨xa, xc, rfl⟩ := ownsRow_slice ho9
      have HB9 := Lib.hid c9
      have HSM := Lib.hid (fun a' ha' c' => part_same (c0 := 0) H0.out c9 ht2 ho9 a' ha' c')
      clear ho9 c9
      go_wp2_with (go_at_call 14; refine (HSM.out _ (by first | exact .inr rfl | exact .inl (by omega)) _).mono ?_; rintro e w10 ⟨rfl, nn, rfl⟩)
      all_goals go_ret
      all_goals exact ⟨rfl, below_drewN2 HB9.out nn⟩
end Go.Proofs.YtlgpkbcefaldoaaDoor

/- Layer 4: the walk of WalDrops. -/
import Derived.Test.YtlgpkbcefaldoaaDoorW04h
import Derived.Test.YtlgpkbcefaldoaaDoorM04e
import Derived.Test.YtlgpkbcefaldoaaDoorWS
import Derived.Deep.CutBlock
import Derived.Deep.CutRange
import Derived.Deep.DeepCutAuto
import Derived.WalkSpells
import Derived.WalkLawsBesides
namespace Go.Proofs.YtlgpkbcefaldoaaDoor
open Go.RowKit Go.Maps Go.WideMaps Go.Shelf
set_option linter.unusedVariables false

theorem bytesOf_take (ss : List ByteArray) (k : Nat) : bytesOf (ss.take k) = (bytesOf ss).take k := by simp [bytesOf]
theorem bytesOf_snoc {ss : List ByteArray} {k : Nat} (h : k < ss.length) : bytesOf (ss.take (k + 1)) = bytesOf (ss.take k) ++ [ss[k].data.toList] := by
  rw [List.take_succ_eq_append_getElem h]
  unfold bytesOf
  rw [List.map_append]; rfl

theorem segsL_mem {nm : Key} : ∀ {i : Nat} {fs : List FileS} {x : Key × FileS}, x ∈ segsL nm i fs → x.2 ∈ fs
  | _, [], x, h => by cases h
  | i, f :: r, x, h => by
    rw [segsL] at h
    rcases List.mem_cons.1 h with rfl | h
    · simp
    · exact List.mem_cons_of_mem _ (segsL_mem h)
theorem segF_bound {ls : List (List UInt8)} (hs : ∀ l ∈ ls, l.length ≤ 1048576) {nm : Key} {S : Bx} (hI : LInv nm (fsOf ls) [] 0 S) : ∀ x ∈ S.files, x.2.bytes.length ≤ 1048590 := by
  intro x hx
  have e1 : curF [] 0 = [] := rfl
  rw [hI.files, e1, List.append_nil] at hx
  obtain ⟨l, hl, he⟩ := List.mem_map.1 (segsL_mem hx)
  rw [← he]
  show (frameL l ++ []).length ≤ _
  rw [List.append_nil]
  have := frameL_le (hs l hl)
  have := hs l hl
  omega
theorem below_drewN {B : Nat} {w w' : World} (h : Below B w w') (n : Nat) : Below B w (w'.drewN n) := ⟨h.os, h.tape, h.output, h.size, h.block⟩
theorem Row1.drop {w : World} {b off n f : Nat} {V : Nat → Value} (h : Row1 w (some ⟨b, off, none⟩) n V) (hf : f ≤ n) : Row1 w (some ⟨b, off + f, none⟩) (n - f) (fun i => V (f + i)) := by
  refine ⟨by have := h.max; omega, ?_⟩
  rcases h.row with h0 | ⟨b', off', ha, hlt, hc⟩
  · exact .inl (by omega)
  · injection ha with ha
    injection ha with e1 e2
    subst e1; subst e2
    exact .inr ⟨b, off + f, rfl, hlt, fun i hi => by rw [Nat.add_assoc]; exact hc (f + i) (by omega)⟩
theorem Row1.conv {w : World} {a : Option Addr} {n : Nat} {V V' : Nat → Value} (h : Row1 w a n V) (hv : ∀ i, i < n → V i = V' i) : Row1 w a n V' := by
  refine ⟨h.max, ?_⟩
  rcases h.row with h0 | ⟨b, off, ha, hlt, hc⟩
  · exact .inl h0
  · exact .inr ⟨b, off, ha, hlt, fun i hi => by rw [hc i hi, hv i hi]⟩
/-- Behind k rounds. -/
structure DropRel (w wr : World) (q p : Nat) (ss : List ByteArray) (k : Nat) : Prop where
  log : LogUp w.heap.size wr q p ⟨#[120]⟩ (fsOf (bytesOf (ss.take k))) [] 0 (k * 1048600)
  small : ∀ l ∈ bytesOf (ss.take k), l.length ≤ 1048576
  below : Below w.heap.size w wr

set_option maxHeartbeats 2000000 in
set_option maxRecDepth 100000 in
theorem drops_walk (a0 : Option Addr) (l0 c0 : Nat) (ss : List ByteArray) (u : Int) (o : ByteArray) (w : World) (h0 : Row1 w a0 l0 (fun i => .string (ss.getD i ByteArray.empty))) (hs : ss.length = l0) (hcap : l0 ≤ c0) (hu : (Lit.int .i64 u).wf = true) (ho : o.size ≤ maxLen) (ht : Tab w) :
    Calls Tryd.prog 5 #[.slice a0 l0 c0, .int .i64 u, .string o] w fun e w' => e = .returned (.bool true) ∧ Below w.heap.size w w' := by
  have m0 := h0.max
  have hub := bounds_i64 hu
  have HT := Lib.hid ht
  have hgl := ht.lt
  have H0 := Lib.hid h0
  obtain rfl := hs
  clear ht h0 hu
  go_enter Tryd.func5, Tryd.ntmps5
  go_wp2_with fail
  refine (awake4_any HT.out).mono ?_
  rintro e w1 ⟨rfl, b1⟩
  go_wp2_with fail
  refine (own_new w.heap.size _ b1.size).mono ?_
  rintro e w2 ⟨p, rfl, h2, c2⟩
  have B2 := Lib.hid (below_next b1 (Nat.le_refl _) c2)
  clear b1 c2
  go_wp2_with fail
  refine (lu_open (nm := ⟨#[120]⟩) (fs := []) (N := 0) h2 B2.out.size (tab_later HT.out B2.out) hgl (by decide) (by decide) Up.new (LInv.start _) (by intro x hx; cases hx) (by decide) (by decide)).mono ?_
  rintro e w3 ⟨q, v, rfl, h3, ho3, c3⟩
  obtain ⟨va, vc, rfl⟩ := ownsRow_slice ho3
  have HST : Hid (DropRel w w3 q p ss 0) := ⟨h3.mono (by omega), by simp [bytesOf], below_next B2.out (Nat.le_refl _) c3⟩
  clear h2 h3 ho3 c3 B2
  by_cases h30 : ss.length ≤ 30
  · go_wp2
    go_loopw [44] (fun iv wr => ∃ (k : Nat), k ≤ ss.length ∧ iv = .int .i64 (k : Int) ∧ Hid (DropRel w wr q p ss k)) (fun iv _ => ss.length - (intOf iv).toNat)
    case atStart => exact ⟨0, by omega, rfl, HST.out⟩
    case round =>
      clear HST
      obtain ⟨k, hk, rfl, HR⟩ := hrel
      by_cases hlt : k < ss.length
      · obtain ⟨b, off, rfl, hcell⟩ := H0.out.in HR.out.below hlt
        have hget : ss.getD k ByteArray.empty = ss[k] := by simp [List.getD, hlt]
        rw [hget] at hcell
        have HBS := Lib.hid (bytesOf_snoc hlt)
        generalize ss[k] = x at *
        by_cases hx : x.size ≤ 1048576
        · have hkl : (fsOf (bytesOf (ss.take k))).length + 2 ≤ 99999999 := by rw [fsOf_len, bytesOf_len, List.length_take]; omega
          have HKL := Lib.hid hkl
          clear hget hkl
          go_wp2_with fail
          refine (lu_append HR.out.log x hx (by omega)).mono ?_
          rintro e w4 ⟨rfl, h4, c4⟩
          have H4 := Lib.hid h4
          have B4 := Lib.hid (HR.out.below.trans c4)
          clear h4 c4 hcell
          go_wp2_with fail
          refine (lu_rotate H4.out (by simp) HKL.out).mono ?_
          rintro e w5 ⟨rfl, h5, c5⟩
          have HR2 : Hid (DropRel w w5 q p ss (k + 1)) := by
            refine ⟨?_, ?_, B4.out.trans c5⟩
            · rw [HBS.out, fsOf_snoc]
              exact h5.mono (by omega)
            · rw [HBS.out]
              intro l hl
              rcases List.mem_append.1 hl with hl | hl
              · exact HR.out.small l hl
              · rw [List.mem_singleton] at hl
                rw [hl, Array.length_toList]; exact hx
          clear h5 c5
          go_wp2
          go_roundw
          case rel => exact ⟨k + 1, by omega, by go_num, HR2⟩
          case measure => simp [intOf]; omega
        · clear hget
          go_wp2_with fail
          refine (log_append_long q x hx _).mono ?_
          rintro e w4 ⟨rfl, rfl⟩
          have hx2 : decide (1048576 < (x.size : Int)) = true := by simp; omega
          clear hcell
          go_wp2
          go_ret
          exact ⟨rfl, HR.out.below⟩
      · obtain rfl : k = ss.length := by omega
        obtain ⟨⟨S, hlo, hU, hI, hw⟩, hsm, hbl⟩ := HR.out
        rw [List.take_length] at hlo hI hsm
        have hcl : (fsOf (bytesOf ss)).length + 1 = ss.length + 1 := by rw [fsOf_len, bytesOf_len]
        rw [hcl] at hlo
        have HFB := Lib.hid (append_bound (n := o.data.toList) (d := [121]) (segF_bound hsm hI))
        have HU := Lib.hid hU
        have HI := Lib.hid hI
        have HSM := Lib.hid hsm
        have HB := Lib.hid hbl
        have hlo : LogOwn w.heap.size wr q p ⟨#[120]⟩ (ss.length + 1) false S := hlo
        have HLO := Lib.hid hlo
        have hww := S.append_weigh o.data.toList [121]
        have hww : weigh (S.append o.data.toList [121]).1.files ≤ ss.length * 1048600 + 2 := by simpa using Nat.le_trans hww (by simp; omega)
        clear hU hI hsm hbl hlo hcl HR
        go_wp2_with fail
        refine (lo_boxAppend HLO.out o ⟨#[121]⟩ ho (by show _ + 1 ≤ _; omega)).mono ?_
        rintro e w4 ⟨rfl, h4, c4⟩
        have HB4 := Lib.hid (HB.out.trans c4)
        have H4 := Lib.hid h4
        have HU4 := Lib.hid (HU.out.append' o.data.toList [121])
        clear h4 c4
        have e121 : (ByteArray.mk #[121]).data.toList = [121] := rfl
        rw [e121] at H4 ⊢
        obtain ⟨e1, he1⟩ : ∃ e1, (S.append o.data.toList [121]).2 = e1 := ⟨_, rfl⟩
        rw [he1]
        have HE1 := Lib.hid he1
        clear he1
        by_cases hu1 : (ss.length : Int) + 1 ≤ u
        · go_wp2_with fail
          refine (lo_drop_arg H4.out u (by omega)).mono ?_
          rintro e w5 ⟨rfl, rfl⟩
          go_wp2
          go_ret
          exact ⟨rfl, HB4.out⟩
        · have hu2 : ¬ (ss.length : Int) + 1 ≤ u := hu1
          go_wp2_with fail
          refine (lo_drop H4.out HU4.out.up (by have := len_weigh (S.append o.data.toList [121]).1.files; omega) u (by omega)).mono ?_
          rintro e w5 ⟨rfl, h5, c5⟩
          have HD := Lib.hid (fun (hseg : segNum [120] o.data.toList = 0) => drops_pure HSM.out HU.out HI.out hseg (u := u) (by rw [bytesOf_len]; omega))
          have HU5 := Lib.hid (Up.dropSegs (nm := [120]) (u := u) (ns := segsOf [120] (S.append o.data.toList [121]).1.files) HU4.out)
          have hw5 := dropSegs_weigh (nm := [120]) (u := u) (ns := segsOf [120] (S.append o.data.toList [121]).1.files) (S := (S.append o.data.toList [121]).1)
          have HF5 := Lib.hid (fun x hx => HFB.out x (dropSegs_sub [120] u (segsOf [120] (S.append o.data.toList [121]).1.files) (S.append o.data.toList [121]).1 x hx))
          have hx120 : (ByteArray.mk #[120]).data.toList = [120] := rfl
          have HB5 := Lib.hid (HB4.out.trans c5)
          have H5 := Lib.hid h5
          rw [hx120] at H5 ⊢
          clear h5 c5 hx120
          generalize dropSegs [120] u (segsOf [120] (S.append o.data.toList [121]).1.files) (S.append o.data.toList [121]).1 = R at *
          obtain ⟨T, e2⟩ := R
          simp only at *
          have hwT : weigh T.files ≤ 8796093022208 := by omega
          have HZ : Hid (∀ x ∈ T.files, segNum (ByteArray.mk #[120]).data.toList x.1 ≠ 0 → x.2.bytes.length ≤ 16777216) := fun x hx _ => by
            have := HF5.out x hx
            have e : ([121] : Key).length = 1 := rfl
            rw [e] at this
            omega
          clear hw5 HF5 hww
          by_cases hseg : o.size = 9 ∧ ∃ hp : 0 < o.size, o[0] = 120
          · obtain ⟨h9, hp, hx⟩ := hseg
            by_cases hcur : curOf (ByteArray.mk #[120]).data.toList T.files ≤ 99999999
            · have hop := lo_open H5.out.box H5.out.size H5.out.tab hgl (by decide) (by decide) HU5.out.up hcur HZ.out hwT
              have HOP := Lib.hid hop
              clear hop hcur
              go_wp2_with fail
              refine HOP.out.mono ?_
              rintro e w6 ⟨q2, v2, rfl, h6, ho6, c6⟩
              have HB6 := Lib.hid (below_next HB5.out (Nat.le_refl _) c6)
              clear h6 ho6 c6
              go_wp2
              go_ret
              exact ⟨rfl, HB6.out⟩
            · have hop := open_long (nm := ⟨#[120]⟩) H5.out.boxIn (fun k hk => hk.2) H5.out.tab (fun hk => by have := hk.1; omega) (by decide) (by decide) HU5.out.up hcur hwT
              have HOP := Lib.hid hop
              clear hop hcur
              go_wp2_with fail
              refine HOP.out.mono ?_
              rintro e w6 ⟨rfl, c6⟩
              have HB6 := Lib.hid (below_next HB5.out (Nat.le_refl _) c6)
              clear c6
              go_wp2
              go_ret
              exact ⟨rfl, HB6.out⟩
          · have hs0 : segNum [120] o.data.toList = 0 := by
              by_cases h0 : segNum [120] o.data.toList = 0
              · exact h0
              · exfalso
                apply hseg
                have hnm := (segNum_inv h0).1
                generalize segNum [120] o.data.toList = n at hnm
                have hl : o.data.toList.length = 9 := by rw [hnm, segName_len]; rfl
                rw [Array.length_toList] at hl
                have h9 : o.size = 9 := hl
                refine ⟨h9, by omega, ?_⟩
                have h0 : o.data.toList[0]? = some 120 := by rw [hnm]; rfl
                rw [List.getElem?_eq_getElem (by rw [Array.length_toList]; show 0 < o.size; omega)] at h0
                injection h0 with h0
            have D := Lib.hid (HD.out hs0)
            have hd2 := D.out.ok
            have hd2 : e2 = 0 := hd2
            subst hd2
            have hop := lo_open H5.out.box H5.out.size H5.out.tab hgl (by decide) (by decide) HU5.out.up D.out.cur HZ.out hwT
            have HOP := Lib.hid hop
            clear hop hs0 HD
            have hB : o.size ≠ 9 ∨ (o.size = 9 ∧ ∃ hp : 0 < o.size, ¬ o[0] = 120) := by
              by_cases h9 : o.size = 9
              · exact .inr ⟨h9, by omega, fun hx => hseg ⟨h9, by omega, hx⟩⟩
              · exact .inl h9
            clear hseg
            go_wp2_with fail
            refine HOP.out.mono ?_
            rintro e w6 ⟨q2, v2, rfl, h6, ho6, c6⟩
            rw [show recsL (ByteArray.mk #[120]).data.toList T.files = (bytesOf ss).drop u.toNat from D.out.recs] at ho6
            obtain ⟨va2, vc2, rfl⟩ := ownsRow_slice ho6
            have HB6 := Lib.hid (below_next HB5.out (Nat.le_refl _) c6)
            have HO6 := Lib.hid ho6
            have HBX := Lib.hid (h6.box)
            clear h6 ho6 c6
            obtain ⟨f, hfm, hfu⟩ : ∃ f : Nat, max u 0 = (f : Int) ∧ f = u.toNat := ⟨u.toNat, by omega, rfl⟩
            have hfl : f ≤ ss.length := by omega
            rw [← hfu] at HO6
            rw [show u.toNat = f from hfu.symm]
            obtain ⟨ra, rc, hrv, R6⟩ := row1_owns HO6.out (by rfl) (by rw [List.length_drop, bytesOf_len]; omega)
            injection hrv with g1 g2 g3
            subst g1; subst g3
            have HR6 := Lib.hid R6
            have HFU := Lib.hid hfu
            have HN : Hid ((e1 = 0 ∧ T.read o.data.toList = ([121], 0)) ∨ e1 = 1) := by
              cases hn : nameOK o.data.toList with
              | true => exact .inl ⟨by rw [← HE1.out]; exact (HU.out.append hn [121]).1, D.out.read hn⟩
              | false => exact .inr (by rw [← HE1.out, Bx.append_bad HU.out.up hn])
            have hrd := box_read HBX.out o ho
            have HRD0 := Lib.hid hrd
            clear hrd hfu R6 HE1
            have hx' : ((o.size : Int) == 9) = false ∨ ∃ hp : 0 < o.size, (((o[0].toNat : Nat) : Int) == 120) = false := by
              rcases hB with h9 | ⟨h9, hp, hx⟩
              · exact .inl (by simp; omega)
              · refine .inr ⟨hp, ?_⟩
                rw [beq_eq_false_iff_ne]
                intro e
                apply hx
                apply UInt8.toNat_inj.1
                show o[0].toNat = 120
                omega
            clear hB
            by_cases hl0 : ss.length - f = 0
            · have HS : Hid (∀ a cap, Calls Tryd.prog 14 #[.slice va2 ((bytesOf ss).length - f) vc2, .slice a (ss.length - f) cap] w6 fun e w' => e = .returned (.bool true) ∧ ∃ n, w' = w6.drewN n) := by
                intro a cap
                have h1 := same_any va2 a ((bytesOf ss).length - f) vc2 (ss.length - f) cap ((bytesOf ss).drop f) ((bytesOf ss).drop f) w6 (List.length_drop) (by rw [List.length_drop, bytesOf_len]) (by have := HR6.out; rw [List.length_drop] at this; exact this) ⟨by omega, .inl hl0⟩
                rw [sameB_refl] at h1
                exact h1
              clear hl0
              by_cases hcc : c0 = f
              all_goals rcases hx' with hx9 | ⟨hp, hx9⟩
              all_goals rcases HN.out with ⟨rfl, hr⟩ | rfl
              all_goals
                have HRD := Lib.hid HRD0.out
                try rw [hr] at HRD
                try rw [show tx [121] = Value.string ⟨#[121]⟩ from rfl] at HRD
                try clear hr
                clear HN HRD0
                go_upto_region 26 with (go_at_call 17; refine HRD.out.mono ?_; rintro e w7 ⟨rfl, rfl⟩)
                go_wp2_with (go_at_call 14; refine (HS.out _ _).mono ?_; rintro e w8 ⟨rfl, nn, rfl⟩)
                all_goals go_ret
                all_goals exact ⟨rfl, below_drewN HB6.out nn⟩
            · have hcc : ¬ c0 = f := by omega
              obtain ⟨b, off, rfl, _, _⟩ := H0.out.at (k := 0) (by omega)
              have HS : Hid (Calls Tryd.prog 14 #[.slice va2 ((bytesOf ss).length - f) vc2, .slice (some ⟨b, off + f, none⟩) (ss.length - f) (c0 - f)] w6 fun e w' => e = .returned (.bool true) ∧ ∃ n, w' = w6.drewN n) := by
                have hrow := ((H0.out.below HB6.out).drop hfl).conv (V' := fun i => tx (((bytesOf ss).drop f).getD i [])) (fun i hi => by
                  rw [← bytesOf_getD (by omega)]
                  congr 1
                  simp [List.getD])
                have h1 := same_any va2 _ ((bytesOf ss).length - f) vc2 (ss.length - f) (c0 - f) ((bytesOf ss).drop f) ((bytesOf ss).drop f) w6 (List.length_drop) (by rw [List.length_drop, bytesOf_len]) (by have := HR6.out; rw [List.length_drop] at this; exact this) hrow
                rw [sameB_refl] at h1
                exact h1
              clear hl0
              rcases hx' with hx9 | ⟨hp, hx9⟩
              all_goals rcases HN.out with ⟨rfl, hr⟩ | rfl
              all_goals
                have HRD := Lib.hid HRD0.out
                try rw [hr] at HRD
                try rw [show tx [121] = Value.string ⟨#[121]⟩ from rfl] at HRD
                try clear hr
                clear HN HRD0
                go_upto_region 26 with (go_at_call 17; refine HRD.out.mono ?_; rintro e w7 ⟨rfl, rfl⟩)
                go_wp2_with (go_at_call 14; refine (HS.out).mono ?_; rintro e w8 ⟨rfl, nn, rfl⟩)
                all_goals go_ret
                all_goals exact ⟨rfl, below_drewN HB6.out nn⟩
  · go_wp2
    go_ret
    exact ⟨rfl, HST.out.below⟩
end Go.Proofs.YtlgpkbcefaldoaaDoor

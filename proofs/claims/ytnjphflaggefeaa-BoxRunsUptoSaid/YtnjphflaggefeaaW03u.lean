/- Layer 3: the contract of the reference's Crash. -/
import Derived.Test.YtnjphflaggefeaaW03t
namespace Go.Proofs.Ytnjphflaggefeaa
open Go.RowKit Go.Maps Go.WideMaps
set_option linter.unusedVariables false

theorem src_newd {sz : Nat} (w : World) (cs : Array Value) (E : TypeId) (hsz : cs.size = sz) (h1 : ∀ u ∈ cs.toList, u.oneCell' = true) : SrcRow (w.alloc (.cells cs E)).drew (.slice (some ⟨w.heap.size, 0, none⟩) 1 1) 1 sz cs.toList :=
  let h := src_new w cs E hsz h1
  ⟨h.len, h.one, h.row⟩
theorem src_newdd {sz : Nat} (w : World) (cs : Array Value) (E : TypeId) (hsz : cs.size = sz) (h1 : ∀ u ∈ cs.toList, u.oneCell' = true) : SrcRow (w.alloc (.cells cs E)).drew.drew (.slice (some ⟨w.heap.size, 0, none⟩) 1 1) 1 sz cs.toList :=
  let h := src_new w cs E hsz h1
  ⟨h.len, h.one, h.row⟩
theorem RefIn.tight {w : World} {p : Nat} {v : Value} {S : Bx} {F : Nat → Prop} (h : RefIn w p v S F) : RefIn w p v S (fun k => F k ∧ k < w.heap.size) :=
  ⟨h.head, h.row, ⟨h.fp, h.lt⟩, fun k hk => ⟨h.frow k hk, (h.row.lt k hk).2⟩, h.ok, h.hi⟩
/-- The reference's files in the row where they lay, or in a new one. -/
theorem RefIn.grownRow {w w1 : World} {p : Nat} {v : Value} {S : Bx} {F : Nat → Prop} (h : RefIn w p v S F) {v' : Value} {l : List (Key × FileS)} (t : Turn (fun j => v.ownBlock = some j) w w1) (ho : w1.ownsRow 0 68 3 v' l.length (rcells l)) {n : Nat} (hn : ∀ k, v'.ownBlock = some k → v.ownBlock = some k ∨ n ≤ k) (hnw : w.heap.size ≤ n) (hok : FOK l) :
    RefIn (w1.setCell ⟨p, 0, none⟩ v') p v' ⟨l, S.fuel, S.down⟩ (Grew F w (w1.setCell ⟨p, 0, none⟩ v')) ∧ Turn F w (w1.setCell ⟨p, 0, none⟩ v') := by
  have hh1 : w1.heap[p]? = some (.cells #[v, .int .i64 (max S.fuel (-1)), .bool S.down] 39 (0, 0)) := t.keeps h.head (fun e => h.rowNe e rfl)
  have t2 : Turn (fun k => k = p) w1 (w1.setCell ⟨p, 0, none⟩ v') := (Turn.refl (fun k => k = p) w1).setCell (p := ⟨p, 0, none⟩) (.inl rfl) v'
  have hp := h.lt
  refine ⟨⟨block_set hh1 0 v', t2.row ho (fun k hk e => ?_), .inl h.fp, fun k hk => ?_, hok, h.hi⟩, ?_⟩
  · rcases hn k hk with h1 | h1
    · exact h.rowNe h1 e
    · omega
  · rcases hn k hk with h1 | h1
    · exact .inl (h.frow k h1)
    · exact .inr ⟨by omega, by have := (ho.lt k hk).2; simpa [World.setCell] using this⟩
  · exact (t.mono (fun i hi => .inl (h.frow i hi))).trans (t2.toF h.fp) (fun i hi => .inl hi)
/-- What holds at the head of each round of the reference's Crash. -/
structure RCrash (w wr : World) (p q : Nat) (v : Value) (S : Bx) (F : Nat → Prop) (ks : List Int) (k : Nat) : Prop where
  old : RefIn wr p v S F
  left : ∃ G, RefAt wr q ⟨(crashL ks (S.files.take k)).1, -1, false⟩ G ∧ ∀ j, G j → w.heap.size ≤ j ∧ j < wr.heap.size
  below : Below w.heap.size w wr
theorem RCrash.next {w wr wr' : World} {p q : Nat} {v : Value} {S : Bx} {F : Nat → Prop} {ks : List Int} {k : Nat} (h : RCrash w wr p q v S F ks k) (hF : ∀ j, F j → j < w.heap.size) (hb : Below wr.heap.size wr wr') (he : (crashL ks (S.files.take (k + 1))).1 = (crashL ks (S.files.take k)).1) : RCrash w wr' p q v S F ks (k + 1) := by
  obtain ⟨G, h1, h2⟩ := h.left
  refine ⟨h.old.below hb, ⟨G, by rw [he]; exact h1.below hb, fun j hj => ⟨(h2 j hj).1, by have := (h2 j hj).2; have := hb.size; omega⟩⟩, below_next h.below (Nat.le_refl _) hb⟩

theorem RCrash.laid {w wr wl w5 : World} {p q : Nat} {v nv : Value} {S S2 : Bx} {F G : Nat → Prop} {ks : List Int} {k : Nat} (h : RCrash w wr p q v S F ks k) (hF : ∀ j, F j → j < w.heap.size) (hb : Below wr.heap.size wr wl) (h5 : RefIn w5 q nv S2 (Grew G wl w5)) (t : Turn G wl w5) (hG : ∀ j, G j → w.heap.size ≤ j ∧ j < wr.heap.size) (hS : S2 = ⟨(crashL ks (S.files.take (k + 1))).1, -1, false⟩) : RCrash w w5 p q v S F ks (k + 1) := by
  subst hS
  have h1 := hb.size
  have h2 := t.size
  have h3 := h.below.size
  refine ⟨(h.old.below hb).kept t (fun j hj hg => by have := hF j hj; have := (hG j hg).1; omega), ⟨_, ⟨nv, h5⟩, fun j hj => ?_⟩, (h.below.trans (hb.mono h3)).trans (t.below (fun i hi => (hG i hi).1) (by omega))⟩
  rcases hj with hj | hj
  · exact ⟨(hG j hj).1, by have := (hG j hj).2; omega⟩
  · exact ⟨by omega, hj.2⟩

set_option maxHeartbeats 2000000 in
set_option maxRecDepth 100000 in
theorem ref_crash {w : World} {p : Nat} {S : Bx} {F : Nat → Prop} (h : RefAt w p S F) {kv : Value} {ks : List Int} (hks : IntsAt F w kv ks) (hz : weigh S.files ≤ 1099511627776) :
    Calls Try.prog 20 #[.pointer (some ⟨p, 0, none⟩), kv] w fun r w' => ∃ q, r = .returned (.pointer (some ⟨q, 0, none⟩)) ∧ RefAt w' p S.fall F ∧ RefAt w' q (S.crash ks) (fun k => w.heap.size ≤ k ∧ k < w'.heap.size) ∧ Turn F w w' := by
  obtain ⟨i0, hi, hz0, hz1, hz2⟩ := info_parts infoFile
  obtain ⟨v, h⟩ := h
  have hlw := len_weigh S.files
  obtain ⟨⟨ka, kc, rfl, hkr⟩, hkm, hkl⟩ := hks
  have HKR := Lib.hid hkr
  have HKL := Lib.hid hkl
  have h := h.tight
  have hF0 := Lib.hid (show ∀ k, F k ∧ k < w.heap.size → F k from fun k hk => hk.1)
  have HFb := Lib.hid (show ∀ k, (F k ∧ k < w.heap.size) → k < w.heap.size from fun k hk => hk.2)
  generalize hFF : (fun k => F k ∧ k < w.heap.size) = F1 at *
  have HFb : Hid (∀ k, F1 k → k < w.heap.size) := by subst hFF; exact HFb
  have HF0 : Hid (∀ k, F1 k → F k) := by subst hFF; exact hF0
  have H := Lib.hid h
  clear h hkr hkl hFF hF0
  go_enter Try.func20, Try.ntmps20
  go_wp2_with fail
  refine (ref_new _).mono ?_
  rintro r w1 ⟨q, rfl, hq, hb1⟩
  have hst : RCrash w w1 p q v S F1 ks 0 := ⟨H.out.below hb1, ⟨_, hq, fun j hj => hj⟩, hb1⟩
  have HST0 := Lib.hid hst
  clear hst hq hb1
  go_wp2
  go_loopw [6, 7] (fun cv iv wr => ∃ k : Nat, k ≤ S.files.length ∧ iv = .int .i64 (k : Int) ∧ cv = .int .i64 ((crashL ks (S.files.take k)).2 : Int) ∧ Hid (RCrash w wr p q v S F1 ks k)) (fun _ iv _ => S.files.length - (intOf iv).toNat)
  case atStart => exact ⟨0, by omega, rfl, rfl, HST0.out⟩
  case round =>
    clear HST0
    obtain ⟨k, hk, rfl, rfl, HR⟩ := hrel
    have c0 := HR.out.old.c0
    by_cases hlt : k < S.files.length
    · obtain ⟨g, cap, hv, hgp, hcap, hcm, q0, q1, q2, _⟩ := HR.out.old.file hlt
      subst hv
      have hdl : S.files[k].2.dur ≤ S.files[k].2.bytes.length := H.out.ok.dur _ (List.getElem_mem hlt)
      have hwl : S.files[k].2.bytes.length ≤ 1099511627776 := by
        have := findK_len (findK_at H.out.ok.rising hlt)
        omega
      have hst := crashL_take (keep := ks) hlt
      have hfr := crashL_fresh (keep := ks) H.out.ok.rising hlt
      have hla := crash_last (keep := ks) H.out.ok.rising hlt
      have hcl := crashL_len (keep := ks) (l := S.files) k (by omega)
      obtain ⟨G, ⟨nv, hnin⟩, hG⟩ := HR.out.left
      have HG := Lib.hid hG
      generalize hN : S.files[k].1 = N at *
      have hfe : S.files[k] = (N, S.files[k].2) := by rw [← hN]
      rw [hfe] at hst
      generalize S.files[k].2 = e at *
      obtain ⟨B, D⟩ := e
      simp only at *
      generalize hC : crashL ks (List.take k S.files) = C at *
      have HC := Lib.hid hC
      have HLA := Lib.hid hla
      have HFR := Lib.hid hfr
      unfold crashStep at hst
      simp only at hst
      unfold tx at q0 q1 q2
      unfold maxLen at hcm
      go_upto_region 7 with (fail)
      have hbl := (Below.refl wr.heap.size wr).alloc (Nat.le_refl _) (.cells #[.string ⟨N.toArray⟩, .string ⟨(B.take D).toArray⟩, .string ⟨(B.drop D).toArray⟩] 68)
      have l0 : (wr.alloc (.cells #[.string ⟨N.toArray⟩, .string ⟨(B.take D).toArray⟩, .string ⟨(B.drop D).toArray⟩] 68)).cell? ⟨wr.heap.size, 0, none⟩ = some (.string ⟨N.toArray⟩) := by rw [block_cell (heap_alloc_new _ _)]; rfl
      have l1 : (wr.alloc (.cells #[.string ⟨N.toArray⟩, .string ⟨(B.take D).toArray⟩, .string ⟨(B.drop D).toArray⟩] 68)).cell? ⟨wr.heap.size, 1, none⟩ = some (.string ⟨(B.take D).toArray⟩) := by rw [block_cell (heap_alloc_new _ _)]; rfl
      have l2 : (wr.alloc (.cells #[.string ⟨N.toArray⟩, .string ⟨(B.take D).toArray⟩, .string ⟨(B.drop D).toArray⟩] 68)).cell? ⟨wr.heap.size, 2, none⟩ = some (.string ⟨(B.drop D).toArray⟩) := by rw [block_cell (heap_alloc_new _ _)]; rfl
      have NIN := Lib.hid (hnin.below hbl)
      have BL := Lib.hid hbl
      have qc := (hnin.below hbl).c0
      have qf := (hnin.below hbl).free 0
      clear hnin hG q0 q1 q2 hfr hla hC hN hfe hbl
      generalize wr.alloc (.cells #[.string ⟨N.toArray⟩, .string ⟨(B.take D).toArray⟩, .string ⟨(B.drop D).toArray⟩] 68) = wl at *
      have hrow0 : ∀ wx, Below wl.heap.size wl wx → wx.ownsRow 0 68 3 nv C.1.length (rcells C.1) := fun wx hb => (NIN.out.below hb).row
      have HROW := Lib.hid hrow0
      clear hrow0
      have qD := cell_alloc_any qc
      have lD := cell_alloc_any l0
      by_cases hD : D < B.length
      · have hx2s : (ByteArray.mk (B.drop D).toArray).size = B.length - D := by show (B.drop D).toArray.size = _; simp
        have hx2l : (ByteArray.mk (B.drop D).toArray).data.toList = B.drop D := rfl
        have HX2 := Lib.hid hx2l
        have hst2 : crashL ks (S.files.take (k + 1)) = (if 0 < leftN ks C.2 ⟨B, D⟩ then insK (N, ⟨B.take (leftN ks C.2 ⟨B, D⟩), leftN ks C.2 ⟨B, D⟩⟩) C.1 else C.1, C.2 + 1) := by
          rw [hst]
          simp only [if_pos hD]
        have hln : leftN ks C.2 ⟨B, D⟩ = D + min (keptN ks C.2) (B.length - D) := by unfold leftN; simp only [if_pos hD]
        rw [hln] at hst2
        have HST := Lib.hid hst2
        clear hst hst2 hln hx2l
        generalize ByteArray.mk (B.drop D).toArray = x2 at *
        have j1 : x2.toList.isEmpty = false := by
          rw [ByteArray.toList_eq]
          cases h : x2.data.toList with
          | nil =>
            have h1 : x2.data.toList.length = x2.size := by simp
            rw [h, List.length_nil] at h1
            omega
          | cons a b => rfl
        have j2 : ¬ x2.toList = [] := by intro h; rw [h] at j1; cases j1
        have HXS := Lib.hid hx2s
        clear hx2s
        by_cases hc : C.2 < ks.length
        · obtain ⟨kb, koff, hka, hkb, hkF, hkc⟩ := HKR.out.resolve_left (by omega)
          subst hka
          have kcell : wl.cell? ⟨kb, koff + C.2, none⟩ = some (.int .i64 (ks.getD C.2 0)) := ((HR.out.below.trans (BL.out.mono HR.out.below.size)).cell (p := ⟨kb, koff + C.2, none⟩) hkb).trans (hkc C.2 hc)
          have hkm2 : ks.getD C.2 0 ∈ ks := by
            have : ks.getD C.2 0 = ks[C.2] := by simp [List.getD, hc]
            rw [this]; exact List.getElem_mem hc
          have hkb2 := HKL.out _ hkm2
          unfold keptN at HST
          generalize ks.getD C.2 0 = kk at *
          clear hkc hkm2
          by_cases hpos : 0 < kk
          · obtain ⟨mm, hmm⟩ : ∃ mm, mm = min kk.toNat (B.length - D) := ⟨_, rfl⟩
            have hmi : min kk (x2.size : Int) = (mm : Int) := by have := HXS.out; omega
            have hml : mm ≤ x2.size := by have := HXS.out; omega
            have hmli : (mm : Int) ≤ (x2.size : Int) := by omega
            have hTT : (ByteArray.mk (B.take D).toArray ++ x2.extract 0 mm).data.toList = B.take (D + min kk.toNat (B.length - D)) := by
              rw [concat_form (l := B.take D) (r := (B.drop D).take mm) rfl (by rw [Lib.extract_data, HX2.out]; simp), hmm, List.take_add]
            have hz1' : (ByteArray.mk (B.take D).toArray).size ≤ 1099511627776 := by show (B.take D).toArray.size ≤ _; simp; omega
            have hz2' : (x2.extract 0 mm).size ≤ 1099511627776 := by have := HXS.out; simp; omega
            obtain ⟨SZ, hSZ⟩ : ∃ SZ, SZ = D + min kk.toNat (B.length - D) := ⟨_, rfl⟩
            have hSZl : SZ ≤ B.length := by omega
            rw [← hSZ] at HST hTT
            clear hmm
            go_wp2_with fail
            go_region
            go_upto_region 12 with (fail)
            have htt : (ByteArray.mk (B.take D).toArray ++ x2.extract 0 mm).data.toList = B.take SZ := hTT
            generalize ByteArray.mk (B.take D).toArray ++ x2.extract 0 mm = t at *
            have hts : t.size = SZ := by
              have h1 := congrArg List.length htt
              rw [List.length_take] at h1
              have h2 : t.data.toList.length = t.size := by simp
              omega
            have HTT := Lib.hid htt
            clear htt hSZ
            by_cases hz0' : 0 < SZ
            · have i1 : t.toList.isEmpty = false := by
                rw [ByteArray.toList_eq]
                cases h : t.data.toList with
                | nil =>
                  have h1 : t.data.toList.length = t.size := by simp
                  rw [h, List.length_nil] at h1
                  omega
                | cons a b => rfl
              have i2 : ¬ t.toList = [] := by intro h; rw [h] at i1; cases i1
              have HTS := Lib.hid hts
              clear hts
              go_wp2_with fail
              go_region_law (refine step_app _ (v := nv) (n := C.1.length) (xs := rcells C.1) (m := 1) (news := [.string ⟨N.toArray⟩, .string t, .string ⟨#[]⟩]) (by rfl) _ _ (by rfl) Try.underlying37 hi hz0 hz1 hz2 rfl (by decide) (by rfl) (HROW.out _ (((Below.refl _ wl).alloc (Nat.le_refl _) _).drew.drew)) (by rfl) (src_newdd (sz := 3) wl #[.string ⟨N.toArray⟩, .string t, .string ⟨#[]⟩] 68 rfl (by simp [Value.oneCell'])) (by omega) (by unfold maxLen; omega) ?_; intro b4 c4 w4 o4 g4 l4; have t4 : Turn (fun j => nv.ownBlock = some j) wl w4 := (Turn.of_below (fun j => nv.ownBlock = some j) (((Below.refl _ wl).alloc (Nat.le_refl _) _).drew.drew)).grown g4 (fun j hj => .inl hj); have q4 : w4.cell? ⟨q, 0, none⟩ = some nv := (World.cell?_of_block (w := wl) (t4.block q NIN.out.lt (fun h => NIN.out.rowNe h rfl))).trans NIN.out.c0; have r4 : w4.frozen? ⟨q, 0, none⟩ = false := (World.frozen?_of_block (w := wl) (t4.block q NIN.out.lt (fun h => NIN.out.rowNe h rfl))).trans (NIN.out.free 0))
              all_goals
                have hcr : crashL ks (S.files.take (k + 1)) = (insK (N, ⟨B.take SZ, SZ⟩) C.1, C.2 + 1) := by rw [HST.out, if_pos hz0']
                have hla : insK (N, (⟨B.take SZ, SZ⟩ : FileS)) C.1 = C.1 ++ [(N, ⟨B.take SZ, SZ⟩)] := ins_last HLA.out
                have o4' : w4.ownsRow 0 68 3 (Value.slice b4 (C.1.length + 1) c4) (insK (N, (⟨B.take SZ, SZ⟩ : FileS)) C.1).length (rcells (insK (N, (⟨B.take SZ, SZ⟩ : FileS)) C.1)) := by
                  rw [insK_len, hla, rcells_append]
                  have e1 : rcells [(N, (⟨B.take SZ, SZ⟩ : FileS))] = [.string ⟨N.toArray⟩, .string t, .string ⟨#[]⟩] := by
                    show [tx N, tx ((B.take SZ).take SZ), tx ((B.take SZ).drop SZ)] = _
                    have h1 : (B.take SZ).take SZ = t.data.toList := by rw [HTT.out, List.take_take, Nat.min_self]
                    have h2 : (B.take SZ).drop SZ = [] := by rw [List.drop_eq_nil_iff, List.length_take]; omega
                    rw [h1, h2, tx_data]; rfl
                  rw [e1]
                  exact o4
                have HRW := Lib.hid (NIN.out.grownRow t4 o4' l4 (by show wl.heap.size ≤ _; simp) (NIN.out.ok.ins HFR.out (by show SZ ≤ (B.take SZ).length; rw [List.length_take]; omega)))
                have HCR := Lib.hid hcr
                clear hcr hla o4 o4' g4 l4 t4
                go_wp2
                go_roundw
                case rel => exact ⟨k + 1, by omega, by go_num, by rw [HCR.out]; go_num, RCrash.laid HR.out HFb.out BL.out HRW.out.1 HRW.out.2 HG.out (by rw [HCR.out])⟩
                case measure => simp [intOf]; omega
            · obtain rfl : SZ = 0 := by omega
              obtain rfl : t = ⟨#[]⟩ := by
                apply ByteArray.ext
                exact Array.eq_empty_of_size_eq_zero hts
              have hcr : crashL ks (S.files.take (k + 1)) = (C.1, C.2 + 1) := by rw [HST.out, if_neg (by omega)]
              have HCR := Lib.hid hcr
              clear hts hcr
              go_wp2
              go_roundw
              case rel => exact ⟨k + 1, by omega, by go_num, by rw [HCR.out]; go_num, HR.out.next HFb.out (BL.out.trans ((below_drew wl).mono BL.out.size)) (by rw [HCR.out, HC.out])⟩
              case measure => simp [intOf]; omega
          · have hk0 : min kk.toNat (B.length - D) = 0 := by omega
            simp only [hk0, Nat.add_zero] at HST
            obtain ⟨SZ, hSZ⟩ : ∃ SZ, SZ = D := ⟨_, rfl⟩
            have hSZl : SZ ≤ B.length := by omega
            rw [← hSZ] at HST
            clear hk0
            have htt : (ByteArray.mk (B.take D).toArray).data.toList = B.take SZ := by rw [hSZ]
            generalize ByteArray.mk (B.take D).toArray = t at *
            have hts : t.size = SZ := by
              have h1 := congrArg List.length htt
              rw [List.length_take] at h1
              have h2 : t.data.toList.length = t.size := by simp
              omega
            have HTT := Lib.hid htt
            clear htt hSZ
            by_cases hz0' : 0 < SZ
            · have i1 : t.toList.isEmpty = false := by
                rw [ByteArray.toList_eq]
                cases h : t.data.toList with
                | nil =>
                  have h1 : t.data.toList.length = t.size := by simp
                  rw [h, List.length_nil] at h1
                  omega
                | cons a b => rfl
              have i2 : ¬ t.toList = [] := by intro h; rw [h] at i1; cases i1
              have HTS := Lib.hid hts
              clear hts
              go_wp2_with fail
              go_region_law (refine step_app _ (v := nv) (n := C.1.length) (xs := rcells C.1) (m := 1) (news := [.string ⟨N.toArray⟩, .string t, .string ⟨#[]⟩]) (by rfl) _ _ (by rfl) Try.underlying37 hi hz0 hz1 hz2 rfl (by decide) (by rfl) (HROW.out _ (((Below.refl _ wl).alloc (Nat.le_refl _) _).drew)) (by rfl) (src_newd (sz := 3) wl #[.string ⟨N.toArray⟩, .string t, .string ⟨#[]⟩] 68 rfl (by simp [Value.oneCell'])) (by omega) (by unfold maxLen; omega) ?_; intro b4 c4 w4 o4 g4 l4; have t4 : Turn (fun j => nv.ownBlock = some j) wl w4 := (Turn.of_below (fun j => nv.ownBlock = some j) (((Below.refl _ wl).alloc (Nat.le_refl _) _).drew)).grown g4 (fun j hj => .inl hj); have q4 : w4.cell? ⟨q, 0, none⟩ = some nv := (World.cell?_of_block (w := wl) (t4.block q NIN.out.lt (fun h => NIN.out.rowNe h rfl))).trans NIN.out.c0; have r4 : w4.frozen? ⟨q, 0, none⟩ = false := (World.frozen?_of_block (w := wl) (t4.block q NIN.out.lt (fun h => NIN.out.rowNe h rfl))).trans (NIN.out.free 0))
              all_goals
                have hcr : crashL ks (S.files.take (k + 1)) = (insK (N, ⟨B.take SZ, SZ⟩) C.1, C.2 + 1) := by rw [HST.out, if_pos hz0']
                have hla : insK (N, (⟨B.take SZ, SZ⟩ : FileS)) C.1 = C.1 ++ [(N, ⟨B.take SZ, SZ⟩)] := ins_last HLA.out
                have o4' : w4.ownsRow 0 68 3 (Value.slice b4 (C.1.length + 1) c4) (insK (N, (⟨B.take SZ, SZ⟩ : FileS)) C.1).length (rcells (insK (N, (⟨B.take SZ, SZ⟩ : FileS)) C.1)) := by
                  rw [insK_len, hla, rcells_append]
                  have e1 : rcells [(N, (⟨B.take SZ, SZ⟩ : FileS))] = [.string ⟨N.toArray⟩, .string t, .string ⟨#[]⟩] := by
                    show [tx N, tx ((B.take SZ).take SZ), tx ((B.take SZ).drop SZ)] = _
                    have h1 : (B.take SZ).take SZ = t.data.toList := by rw [HTT.out, List.take_take, Nat.min_self]
                    have h2 : (B.take SZ).drop SZ = [] := by rw [List.drop_eq_nil_iff, List.length_take]; omega
                    rw [h1, h2, tx_data]; rfl
                  rw [e1]
                  exact o4
                have HRW := Lib.hid (NIN.out.grownRow t4 o4' l4 (by show wl.heap.size ≤ _; simp) (NIN.out.ok.ins HFR.out (by show SZ ≤ (B.take SZ).length; rw [List.length_take]; omega)))
                have HCR := Lib.hid hcr
                clear hcr hla o4 o4' g4 l4 t4
                go_wp2
                go_roundw
                case rel => exact ⟨k + 1, by omega, by go_num, by rw [HCR.out]; go_num, RCrash.laid HR.out HFb.out BL.out HRW.out.1 HRW.out.2 HG.out (by rw [HCR.out])⟩
                case measure => simp [intOf]; omega
            · obtain rfl : SZ = 0 := by omega
              obtain rfl : t = ⟨#[]⟩ := by
                apply ByteArray.ext
                exact Array.eq_empty_of_size_eq_zero hts
              have hcr : crashL ks (S.files.take (k + 1)) = (C.1, C.2 + 1) := by rw [HST.out, if_neg (by omega)]
              have HCR := Lib.hid hcr
              clear hts hcr
              go_wp2
              go_roundw
              case rel => exact ⟨k + 1, by omega, by go_num, by rw [HCR.out]; go_num, HR.out.next HFb.out (BL.out.trans (Below.refl _ _)) (by rw [HCR.out, HC.out])⟩
              case measure => simp [intOf]; omega
        · have hk0 : min (keptN ks C.2) (B.length - D) = 0 := by
            unfold keptN
            have : ks.getD C.2 0 = 0 := by simp [List.getD, List.getElem?_eq_none (by omega : ks.length ≤ C.2)]
            rw [this]; simp
          simp only [hk0, Nat.add_zero] at HST
          obtain ⟨SZ, hSZ⟩ : ∃ SZ, SZ = D := ⟨_, rfl⟩
          have hSZl : SZ ≤ B.length := by omega
          rw [← hSZ] at HST
          clear hk0
          have htt : (ByteArray.mk (B.take D).toArray).data.toList = B.take SZ := by rw [hSZ]
          generalize ByteArray.mk (B.take D).toArray = t at *
          have hts : t.size = SZ := by
            have h1 := congrArg List.length htt
            rw [List.length_take] at h1
            have h2 : t.data.toList.length = t.size := by simp
            omega
          have HTT := Lib.hid htt
          clear htt hSZ
          by_cases hz0' : 0 < SZ
          · have i1 : t.toList.isEmpty = false := by
              rw [ByteArray.toList_eq]
              cases h : t.data.toList with
              | nil =>
                have h1 : t.data.toList.length = t.size := by simp
                rw [h, List.length_nil] at h1
                omega
              | cons a b => rfl
            have i2 : ¬ t.toList = [] := by intro h; rw [h] at i1; cases i1
            have HTS := Lib.hid hts
            clear hts
            go_wp2_with fail
            go_region_law (refine step_app _ (v := nv) (n := C.1.length) (xs := rcells C.1) (m := 1) (news := [.string ⟨N.toArray⟩, .string t, .string ⟨#[]⟩]) (by rfl) _ _ (by rfl) Try.underlying37 hi hz0 hz1 hz2 rfl (by decide) (by rfl) (HROW.out _ (((Below.refl _ wl).alloc (Nat.le_refl _) _).drew)) (by rfl) (src_newd (sz := 3) wl #[.string ⟨N.toArray⟩, .string t, .string ⟨#[]⟩] 68 rfl (by simp [Value.oneCell'])) (by omega) (by unfold maxLen; omega) ?_; intro b4 c4 w4 o4 g4 l4; have t4 : Turn (fun j => nv.ownBlock = some j) wl w4 := (Turn.of_below (fun j => nv.ownBlock = some j) (((Below.refl _ wl).alloc (Nat.le_refl _) _).drew)).grown g4 (fun j hj => .inl hj); have q4 : w4.cell? ⟨q, 0, none⟩ = some nv := (World.cell?_of_block (w := wl) (t4.block q NIN.out.lt (fun h => NIN.out.rowNe h rfl))).trans NIN.out.c0; have r4 : w4.frozen? ⟨q, 0, none⟩ = false := (World.frozen?_of_block (w := wl) (t4.block q NIN.out.lt (fun h => NIN.out.rowNe h rfl))).trans (NIN.out.free 0))
            all_goals
              have hcr : crashL ks (S.files.take (k + 1)) = (insK (N, ⟨B.take SZ, SZ⟩) C.1, C.2 + 1) := by rw [HST.out, if_pos hz0']
              have hla : insK (N, (⟨B.take SZ, SZ⟩ : FileS)) C.1 = C.1 ++ [(N, ⟨B.take SZ, SZ⟩)] := ins_last HLA.out
              have o4' : w4.ownsRow 0 68 3 (Value.slice b4 (C.1.length + 1) c4) (insK (N, (⟨B.take SZ, SZ⟩ : FileS)) C.1).length (rcells (insK (N, (⟨B.take SZ, SZ⟩ : FileS)) C.1)) := by
                rw [insK_len, hla, rcells_append]
                have e1 : rcells [(N, (⟨B.take SZ, SZ⟩ : FileS))] = [.string ⟨N.toArray⟩, .string t, .string ⟨#[]⟩] := by
                  show [tx N, tx ((B.take SZ).take SZ), tx ((B.take SZ).drop SZ)] = _
                  have h1 : (B.take SZ).take SZ = t.data.toList := by rw [HTT.out, List.take_take, Nat.min_self]
                  have h2 : (B.take SZ).drop SZ = [] := by rw [List.drop_eq_nil_iff, List.length_take]; omega
                  rw [h1, h2, tx_data]; rfl
                rw [e1]
                exact o4
              have HRW := Lib.hid (NIN.out.grownRow t4 o4' l4 (by show wl.heap.size ≤ _; simp) (NIN.out.ok.ins HFR.out (by show SZ ≤ (B.take SZ).length; rw [List.length_take]; omega)))
              have HCR := Lib.hid hcr
              clear hcr hla o4 o4' g4 l4 t4
              go_wp2
              go_roundw
              case rel => exact ⟨k + 1, by omega, by go_num, by rw [HCR.out]; go_num, RCrash.laid HR.out HFb.out BL.out HRW.out.1 HRW.out.2 HG.out (by rw [HCR.out])⟩
              case measure => simp [intOf]; omega
          · obtain rfl : SZ = 0 := by omega
            obtain rfl : t = ⟨#[]⟩ := by
              apply ByteArray.ext
              exact Array.eq_empty_of_size_eq_zero hts
            have hcr : crashL ks (S.files.take (k + 1)) = (C.1, C.2 + 1) := by rw [HST.out, if_neg (by omega)]
            have HCR := Lib.hid hcr
            clear hts hcr
            go_wp2
            go_roundw
            case rel => exact ⟨k + 1, by omega, by go_num, by rw [HCR.out]; go_num, HR.out.next HFb.out (BL.out.trans (Below.refl _ _)) (by rw [HCR.out, HC.out])⟩
            case measure => simp [intOf]; omega
      · have hst2 : crashL ks (S.files.take (k + 1)) = (if 0 < D then insK (N, ⟨B.take D, D⟩) C.1 else C.1, C.2) := by
          rw [hst]
          unfold leftN
          simp only [if_neg hD]
        have HST := Lib.hid hst2
        have hx2 : B.drop D = [] := by rw [List.drop_eq_nil_iff]; omega
        rw [hx2] at l2
        have l2' : wl.cell? ⟨wr.heap.size, 2, none⟩ = some (.string ⟨#[]⟩) := l2
        clear hst hst2 hx2 l2
        obtain ⟨SZ, hSZ⟩ : ∃ SZ, SZ = D := ⟨_, rfl⟩
        have hSZl : SZ ≤ B.length := by omega
        rw [← hSZ] at HST
        have htt : (ByteArray.mk (B.take D).toArray).data.toList = B.take SZ := by rw [hSZ]
        generalize ByteArray.mk (B.take D).toArray = t at *
        have hts : t.size = SZ := by
          have h1 := congrArg List.length htt
          rw [List.length_take] at h1
          have h2 : t.data.toList.length = t.size := by simp
          omega
        have HTT := Lib.hid htt
        clear htt hSZ
        by_cases hz0' : 0 < SZ
        · have i1 : t.toList.isEmpty = false := by
            rw [ByteArray.toList_eq]
            cases h : t.data.toList with
            | nil =>
              have h1 : t.data.toList.length = t.size := by simp
              rw [h, List.length_nil] at h1
              omega
            | cons a b => rfl
          have i2 : ¬ t.toList = [] := by intro h; rw [h] at i1; cases i1
          have HTS := Lib.hid hts
          clear hts
          go_wp2_with fail
          go_region_law (refine step_app _ (v := nv) (n := C.1.length) (xs := rcells C.1) (m := 1) (news := [.string ⟨N.toArray⟩, .string t, .string ⟨#[]⟩]) (by rfl) _ _ (by rfl) Try.underlying37 hi hz0 hz1 hz2 rfl (by decide) (by rfl) (HROW.out _ (((Below.refl _ wl).alloc (Nat.le_refl _) _).drew)) (by rfl) (src_newd (sz := 3) wl #[.string ⟨N.toArray⟩, .string t, .string ⟨#[]⟩] 68 rfl (by simp [Value.oneCell'])) (by omega) (by unfold maxLen; omega) ?_; intro b4 c4 w4 o4 g4 l4; have t4 : Turn (fun j => nv.ownBlock = some j) wl w4 := (Turn.of_below (fun j => nv.ownBlock = some j) (((Below.refl _ wl).alloc (Nat.le_refl _) _).drew)).grown g4 (fun j hj => .inl hj); have q4 : w4.cell? ⟨q, 0, none⟩ = some nv := (World.cell?_of_block (w := wl) (t4.block q NIN.out.lt (fun h => NIN.out.rowNe h rfl))).trans NIN.out.c0; have r4 : w4.frozen? ⟨q, 0, none⟩ = false := (World.frozen?_of_block (w := wl) (t4.block q NIN.out.lt (fun h => NIN.out.rowNe h rfl))).trans (NIN.out.free 0))
          all_goals
            have hcr : crashL ks (S.files.take (k + 1)) = (insK (N, ⟨B.take SZ, SZ⟩) C.1, C.2) := by rw [HST.out, if_pos hz0']
            have hla : insK (N, (⟨B.take SZ, SZ⟩ : FileS)) C.1 = C.1 ++ [(N, ⟨B.take SZ, SZ⟩)] := ins_last HLA.out
            have o4' : w4.ownsRow 0 68 3 (Value.slice b4 (C.1.length + 1) c4) (insK (N, (⟨B.take SZ, SZ⟩ : FileS)) C.1).length (rcells (insK (N, (⟨B.take SZ, SZ⟩ : FileS)) C.1)) := by
              rw [insK_len, hla, rcells_append]
              have e1 : rcells [(N, (⟨B.take SZ, SZ⟩ : FileS))] = [.string ⟨N.toArray⟩, .string t, .string ⟨#[]⟩] := by
                show [tx N, tx ((B.take SZ).take SZ), tx ((B.take SZ).drop SZ)] = _
                have h1 : (B.take SZ).take SZ = t.data.toList := by rw [HTT.out, List.take_take, Nat.min_self]
                have h2 : (B.take SZ).drop SZ = [] := by rw [List.drop_eq_nil_iff, List.length_take]; omega
                rw [h1, h2, tx_data]; rfl
              rw [e1]
              exact o4
            have HRW := Lib.hid (NIN.out.grownRow t4 o4' l4 (by show wl.heap.size ≤ _; simp) (NIN.out.ok.ins HFR.out (by show SZ ≤ (B.take SZ).length; rw [List.length_take]; omega)))
            have HCR := Lib.hid hcr
            clear hcr hla o4 o4' g4 l4 t4
            go_wp2
            go_roundw
            case rel => exact ⟨k + 1, by omega, by go_num, by rw [HCR.out], RCrash.laid HR.out HFb.out BL.out HRW.out.1 HRW.out.2 HG.out (by rw [HCR.out])⟩
            case measure => simp [intOf]; omega
        · obtain rfl : SZ = 0 := by omega
          obtain rfl : t = ⟨#[]⟩ := by
            apply ByteArray.ext
            exact Array.eq_empty_of_size_eq_zero hts
          have hcr : crashL ks (S.files.take (k + 1)) = (C.1, C.2) := by rw [HST.out, if_neg (by omega)]
          have HCR := Lib.hid hcr
          clear hts hcr
          go_wp2
          go_roundw
          case rel => exact ⟨k + 1, by omega, by go_num, by rw [HCR.out], HR.out.next HFb.out (BL.out.trans (Below.refl _ _)) (by rw [HCR.out, HC.out])⟩
          case measure => simp [intOf]; omega
    · obtain rfl : k = S.files.length := by omega
      have htk : S.files.take S.files.length = S.files := List.take_length
      have HT := Lib.hid htk
      have c2 := HR.out.old.c2
      have f2 := HR.out.old.free 2
      clear htk
      obtain ⟨va, vc, rfl⟩ := ownsRow_slice H.out.row
      go_wp2
      go_ret
      have hr := HR.out
      obtain ⟨G, hg, hG⟩ := hr.left
      obtain ⟨h1, t1⟩ := hr.old.reHead (i := 2) (u := .bool true) (f := S.fuel) (d := true) rfl hr.old.hi
      rw [HT.out] at hg
      have hpw := H.out.lt
      have hsz := t1.size
      refine ⟨q, rfl, ⟨_, h1.mono HF0.out⟩, (hg.kept t1 (fun j hj e => by have := (hG j hj).1; omega)).mono (fun j hj => ⟨(hG j hj).1, by have := (hG j hj).2; omega⟩), (Turn.of_below F hr.below).trans (t1.toF (HF0.out _ H.out.fp)) (fun i hi => .inl hi)⟩
end Go.Proofs.Ytnjphflaggefeaa

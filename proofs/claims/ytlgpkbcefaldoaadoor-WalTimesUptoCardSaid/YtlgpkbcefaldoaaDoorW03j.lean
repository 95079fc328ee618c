/- Layer 3: the walk of Crash. -/
import Derived.Test.YtlgpkbcefaldoaaDoorW03i
namespace Go.Proofs.YtlgpkbcefaldoaaDoor
open Go.RowKit Go.Maps Go.WideMaps
set_option linter.unusedVariables false

/-- What holds at the head of each round of Crash. -/
structure CrashRel (w wr : World) (p m q : Nat) (v : Value) (es : List (Key × EntM)) (S : Bx) (F : Nat → Prop) (ks : List Int) (k : Nat) : Prop where
  old : BoxIn wr p m es S.fall F
  left : ∃ G, BoxAt wr q ⟨(crashL ks (S.files.take k)).1, -1, false⟩ G ∧ ∀ j, G j → w.heap.size ≤ j ∧ j < wr.heap.size ∧ v.ownBlock ≠ some j
  names : wr.ownsRow w.heap.size 9 1 v es.length (es.map fun x => tx x.1)
  turn : Turn (fun k => k = p) w wr

theorem CrashRel.below {w wr wr' : World} {p m q : Nat} {v : Value} {es : List (Key × EntM)} {S : Bx} {F : Nat → Prop} {ks : List Int} {k : Nat} (h : CrashRel w wr p m q v es S F ks k) (hb : Below wr.heap.size wr wr') : CrashRel w wr' p m q v es S F ks k := by
  obtain ⟨G, h1, h2⟩ := h.left
  have := hb.size
  exact ⟨h.old.below hb, ⟨G, h1.below hb, fun j hj => ⟨(h2 j hj).1, by have := (h2 j hj).2.1; omega, (h2 j hj).2.2⟩⟩, ownsRow_below h.names hb, h.turn.trans (Turn.of_below (fun _ => False) hb) (fun i hi => hi.elim)⟩
theorem cell_alloc_any {w : World} {b i : Nat} {v : Value} (h : w.cell? ⟨b, i, none⟩ = some v) : ∀ o, (w.alloc o).cell? ⟨b, i, none⟩ = some v := fun o => by
  rw [World.cell?_of_block (w := w) (Below.heap_alloc _ _ _ (World.block_lt_of_cell? _ _ h))]; exact h
theorem below_drew2 (w : World) : Below w.heap.size w w.drew.drew := (Below.refl _ w).drew.drew
theorem below_drew (w : World) : Below w.heap.size w w.drew := (Below.refl _ w).drew
theorem CrashRel.same {w wr : World} {p m q : Nat} {v : Value} {es : List (Key × EntM)} {S : Bx} {F : Nat → Prop} {ks : List Int} {k : Nat} (h : CrashRel w wr p m q v es S F ks k) (he : (crashL ks (S.files.take (k + 1))).1 = (crashL ks (S.files.take k)).1) : CrashRel w wr p m q v es S F ks (k + 1) :=
  ⟨h.old, by rw [he]; exact h.left, h.names, h.turn⟩

theorem CrashRel.next {w wr wB : World} {p m q m2 : Nat} {v : Value} {es es2 : List (Key × EntM)} {S S2 : Bx} {F G : Nat → Prop} {ks : List Int} {k : Nat} (h : CrashRel w wr p m q v es S F ks k) (hF : ∀ j, F j → j < w.heap.size) (hG : ∀ j, G j → w.heap.size ≤ j ∧ j < wr.heap.size ∧ v.ownBlock ≠ some j)
    (hB : BoxIn wB q m2 es2 S2 (Grew G wr wB)) (h2 : G m2) (t : Turn (fun k => k = m2) wr wB) (hS : S2 = ⟨(crashL ks (S.files.take (k + 1))).1, -1, false⟩) : CrashRel w wB p m q v es S F ks (k + 1) := by
  subst hS
  have hm := hG m2 h2
  have ht := t.size
  refine ⟨h.old.kept t (fun j hj e => by have := hF j hj; omega), ⟨_, ⟨m2, es2, hB⟩, fun j hj => ?_⟩, t.row h.names (fun j hj e => hm.2.2 (by rw [hj, e])), h.turn.trans t (fun i hi => by subst hi; exact .inr hm.1)⟩
  rcases hj with hj | hj
  · exact ⟨(hG j hj).1, by have := (hG j hj).2.1; omega, (hG j hj).2.2⟩
  · refine ⟨by have := h.turn.size; omega, hj.2, fun e => ?_⟩
    have := (h.names.lt j e).2
    omega

set_option maxHeartbeats 2000000 in
set_option maxRecDepth 100000 in
theorem box_crash {w : World} {p : Nat} {S : Bx} {F : Nat → Prop} (h : BoxAt w p S F) {v : Value} {ks : List Int} (hks : IntsAt F w v ks) (hl : weigh S.files ≤ 8796093022208) :
    Calls Tryd.prog 13 #[.pointer (some ⟨p, 0, none⟩), v] w fun r w' => ∃ q, r = .returned (.pointer (some ⟨q, 0, none⟩)) ∧ BoxAt w' p S.fall F ∧ BoxAt w' q (S.crash ks) (fun k => w.heap.size ≤ k ∧ k < w'.heap.size) ∧ Turn (fun k => k = p) w w' := by
  obtain ⟨m, es, hbig⟩ := h
  have h := hbig.tight
  have hF0 := Lib.hid (show ∀ k, F k ∧ k < w.heap.size → F k from fun k hk => hk.1)
  have hks := hks.fit (G := fun k => F k ∧ k < w.heap.size) (fun k hk => .inl hk.1)
  have hFb := Lib.hid (show ∀ k, (F k ∧ k < w.heap.size) → k < w.heap.size from fun k hk => hk.2)
  generalize hFF : (fun k => F k ∧ k < w.heap.size) = F1 at *
  have hFb : Hid (∀ k, F1 k → k < w.heap.size) := by subst hFF; exact hFb
  have hF0 : Hid (∀ k, F1 k → F k) := by subst hFF; exact hF0
  clear hFF hbig
  have hle : es.length ≤ weigh S.files := by
    have := len_weigh S.files
    rwa [h.files, mapK_len, ← h.files] at this
  have hh := h.head
  have c2 := hh.c2
  have f2 := hh.free 2
  have t0 : Turn (fun k => k = p) w (w.setCell ⟨p, 2, none⟩ (.bool true)) := (Turn.refl (fun k => k = p) w).setCell (p := ⟨p, 2, none⟩) (.inl rfl) (.bool true)
  have h0 : BoxIn (w.setCell ⟨p, 2, none⟩ (.bool true)) p m es S.fall F1 := h.reHead (hh.setDown true) t0 h.lo h.hi
  have T0 := Lib.hid t0
  have H0 := Lib.hid h0
  have H := Lib.hid h
  clear hh h t0 h0
  go_enter Tryd.func13, Tryd.ntmps13
  go_wp2_with fail
  refine (box_new _).mono ?_
  rintro r w1 ⟨q, rfl, hq, hbx, hb1⟩
  have h1 := H0.out.below hb1
  go_wp2_with fail
  refine (names_any h1 (by omega)).mono ?_
  rintro r w2 ⟨nv, rfl, ho, hb2⟩
  have h2 := h1.below hb2
  have hA : (w.setCell ⟨p, 2, none⟩ (.bool true)).heap.size = w.heap.size := by simp [World.setCell]
  rw [hA] at hbx hb1
  have hs1 := hb1.size
  rw [hA] at hs1
  have hs2 := hb2.size
  have hn2 : w2.ownsRow w.heap.size 9 1 nv es.length (es.map fun x => tx x.1) := ownsRow_base_a ho hs1
  have hst : CrashRel w w2 p m q nv es S F1 ks 0 := by
    refine ⟨h2, ⟨_, hbx.below hb2, fun j hj => ⟨hj.1, by have := hj.2; omega, fun e => by have := (ho.lt j e).1; have := hj.2; omega⟩⟩, hn2, ?_⟩
    exact ((T0.out.trans (Turn.of_below (fun _ => False) (by rw [hA]; exact hb1)) (fun i hi => hi.elim)).trans (Turn.of_below (fun _ => False) hb2) (fun i hi => hi.elim))
  obtain ⟨na, nc, rfl⟩ := ownsRow_slice ho
  have hrs := Lib.hid h2.rising
  have HL := Lib.hid hle
  have hlen : es.length ≤ 8796093022208 := by omega
  clear hbx hb1 h1 ho hb2 h2 hn2 hA hs1 hs2 hle c2 f2
  go_wp2
  go_loopw [6, 21] (fun u i wr => ∃ k : Nat, k ≤ es.length ∧ i = .int .i64 (k : Int) ∧ u = .int .i64 ((crashL ks (S.files.take k)).2 : Int) ∧ CrashRel w wr p m q (.slice na es.length nc) es S F1 ks k) (fun _ i _ => es.length - (intOf i).toNat)
  case atStart => exact ⟨0, by omega, rfl, rfl, hst⟩
  case round =>
    clear hst
    obtain ⟨k, hk, rfl, rfl, hrel⟩ := hrel
    by_cases hlt : k < es.length
    · have hmem : es[k] ∈ es := List.getElem_mem hlt
      obtain ⟨hfa, hnm⟩ := hrel.old.mem.each _ hmem
      have hN : nameOK es[k].1 = true := hnm
      have hcl : (⟨es[k].1.toArray⟩ : ByteArray).size ≤ 32 := by
        unfold nameOK at hN
        have := (of_decide_eq_true hN).2
        exact this
      have hlk := hrel.old.map.look ⟨es[k].1.toArray⟩ (by unfold maxLen; omega)
      have hat : findK es[k].1 es = some es[k].2 := findK_at hrs.out hlt
      have hf2 : S.files.length = es.length := by rw [H.out.files, mapK_len]
      have hfk : S.files[k]'(by omega) = (es[k].1, es[k].2.file) := by
        have : S.files[k]? = some (es[k].1, es[k].2.file) := by rw [H.out.files]; simp [mapK, hlt]
        rw [List.getElem?_eq_getElem (by omega)] at this
        injection this
      have hwl : es[k].2.file.bytes.length ≤ 8796093022208 := by
        have h1 : findK es[k].1 S.files = some es[k].2.file := by rw [H.out.files, findK_map, hat]; rfl
        have := findK_len h1
        omega
      have hstep := crashL_take (keep := ks) (l := S.files) (i := k) (by omega)
      have hfresh := crashL_fresh (keep := ks) (l := S.files) (by rw [H.out.files]; exact (rising_map _).2 hrs.out) (k := k) (by omega)
      have hclen := crashL_len (keep := ks) (l := S.files) k (by omega)
      rw [hfk] at hstep hfresh
      have hnc : ∃ g, na = some ⟨g, 0, none⟩ := by
        rcases hrel.names.2 with ⟨h1, h2⟩ | ⟨g, cap, cur, h1, _⟩
        · omega
        · injection h1 with h1; exact ⟨g, h1⟩
      obtain ⟨g, rfl⟩ := hnc
      have hnc : wr.cell? ⟨g, k, none⟩ = some (tx es[k].1) := by
        rw [hrel.names.cellAt k (by omega)]
        simp [hlt]
      unfold tx at hnc
      have hlk2 : (Instr.lookup 48 (.map (some m)) (.string ⟨es[k].1.toArray⟩) false).run Tryd.prog wr = .ok (.pointer (some ⟨es[k].2.blk, 0, none⟩)) wr := by
        rw [hlk]
        show Result.ok (Value.pointer ((findK es[k].1 es).map _)) wr = _
        rw [hat]; rfl
      have c0 := hrel.old.head.c0
      have HR := Lib.hid hrel
      have HN := Lib.hid hN
      have HST := Lib.hid hstep
      have HFR := Lib.hid hfresh
      generalize es[k].1 = N at *
      generalize es[k].2 = e at *
      have e0 : wr.cell? ⟨e.blk, 0, none⟩ = some e.row := by rw [block_cell hfa.head]; rfl
      have e1 : wr.cell? ⟨e.blk, 1, none⟩ = some (.int .i64 (e.file.dur : Int)) := by rw [block_cell hfa.head]; rfl
      generalize hC : crashL ks (List.take k S.files) = C at *
      have HC := Lib.hid hC
      clear hrel hlk hat hfk hstep hfresh hN hmem hnm hC
      rcases hfa.row.2 with ⟨hr, hl0⟩ | ⟨gr, rc, cur, hr, _, hgr, hrc, hrcm, hrs2, _⟩
      · have hd0 : e.file.dur = 0 := by have := hfa.dur; omega
        rw [hr] at e0
        rw [hd0] at e1
        have HC1 : Hid (crashL ks (S.files.take (k + 1)) = C) := by
          show _ = _
          rw [HST.out]
          unfold crashStep leftN
          simp [hl0, hd0]
        clear hfa hr hl0 hd0 HST HFR HN hcl hf2
        go_wp2
        go_region
        go_wp2
        go_roundw
        case rel => exact ⟨k + 1, by omega, by go_num, by rw [HC1.out], (HR.out.same (by rw [HC1.out, HC.out])).below (below_drew _)⟩
        case measure => simp [intOf]; omega
      · have hdl := hfa.dur
        have hlm : e.file.bytes.length ≤ 9223372036854775807 := by unfold maxLen at hrcm; omega
        have hcells := take_cells (by have := hfa.row; rw [hr] at this; exact this)
        have HCL := Lib.hid hcells
        rw [hr] at e0
        clear hfa hr hgr hrs2 hcells
        by_cases hv : e.file.dur < e.file.bytes.length
        · go_wp2
          go_region
          go_wp2_with fail
          have hkk : IntsAt F1 wr.drew v ks := (hks.turn HR.out.turn (fun i hi => by subst hi; exact H.out.fp)).turn (Turn.of_below (fun _ => False) (below_drew _)) (fun i hi => hi.elim)
          refine (kept_any hkk C.2 (by omega)).mono ?_
          rintro r wk ⟨rfl, rfl⟩
          clear hkk
          go_upto_region 15 with (fail)
          have hsum : (e.file.dur : Int) + min (keptN ks C.2 : Int) ((e.file.bytes.length : Int) - (e.file.dur : Int)) = ((leftN ks C.2 e.file : Nat) : Int) := by
            unfold leftN
            rw [if_pos hv]
            omega
          rw [hsum]
          have hSZ : leftN ks C.2 e.file ≤ e.file.bytes.length := by
            unfold leftN
            rw [if_pos hv]
            omega
          have HS2 : Hid (crashL ks (S.files.take (k + 1)) = (if 0 < leftN ks C.2 e.file then insK (N, ⟨e.file.bytes.take (leftN ks C.2 e.file), leftN ks C.2 e.file⟩) C.1 else C.1, C.2 + 1)) := by
            show _ = _
            rw [HST.out]
            unfold crashStep
            rw [if_pos hv]
          generalize leftN ks C.2 e.file = SZ at *
          clear hsum
          have hnr : Hid (SZ ≤ e.file.bytes.length) := hSZ
          by_cases hs : 0 < SZ
          · obtain ⟨G, ⟨m2, es2, hx2⟩, hG⟩ := HR.out.left
            have q0 := hx2.head.c0
            have hes2 : es2.length ≤ k := by
              have h1 := congrArg List.length hx2.files
              rw [mapK_len] at h1
              have h2 := (crashL_len (keep := ks) (l := S.files) k (by rw [H.out.files, mapK_len]; omega)).1
              rw [h1] at h2
              exact h2
            have hfr2 : findK N es2 = none := by
              have h1 := HFR.out
              have h2 : (crashL ks (S.files.take k)).1 = mapK EntM.file es2 := hx2.files
              rw [← HC.out, h2, findK_map] at h1
              cases h3 : findK N es2 with
              | none => rfl
              | some x => rw [h3] at h1; cases h1
            have HX := Lib.hid hx2
            have HG := Lib.hid hG
            have HF2 := Lib.hid hfr2
            have hzz : SZ ≤ 140737488355328 := by have := hnr.out; omega
            have hsi : (0 : Int) < (SZ : Int) := by omega
            have hsc : SZ ≤ rc := by have := hnr.out; omega
            have hsci : (SZ : Int) ≤ (rc : Int) := by omega
            clear hx2 hG hfr2 HFR
            go_wp2_with fail
            go_region_with (go_at_call 26; refine (clone_take hs hnr.out hzz (by first | exact HCL.out _ hnr.out | exact HCL.out _ hnr.out)).mono ?_; rintro r wC ⟨aC, cC, rfl, hoC, hbC⟩; have qC : wC.cell? ⟨q, 0, none⟩ = some (.map (some m2)) := (hbC.cell (p := ⟨q, 0, none⟩) HX.out.head.lt).trans q0; have qD := cell_alloc_any qC; obtain ⟨wB, hrun, hB, tB⟩ := (HX.out.below (w' := wr.drew.drew) (below_drew2 _)).lay (s := ⟨N.toArray⟩) (by unfold maxLen; omega) HN.out HF2.out (by unfold maxLen; omega) hbC (l := e.file.bytes.take SZ) (n := SZ) (by rw [List.length_take]; have := hnr.out; omega) hoC rfl)
            all_goals
              go_wp2
              go_roundw
              case rel => exact ⟨k + 1, by omega, by go_num, by rw [HS2.out]; go_num, (HR.out.below (below_drew2 _)).next hFb.out HG.out hB HX.out.fm tB (by show Bx.mk (insK (N, _) (crashL ks (List.take k S.files)).1) (-1) false = _; rw [HS2.out, if_pos hs, HC.out])⟩
              case measure => simp [intOf]; omega
          · have hs0 : SZ = 0 := by omega
            have hsi : ¬ ((0 : Int) < (SZ : Int)) := by omega
            go_wp2
            go_roundw
            case rel => exact ⟨k + 1, by omega, by go_num, by rw [HS2.out]; go_num, (HR.out.same (by rw [HS2.out, if_neg (by omega), HC.out])).below (below_drew _)⟩
            case measure => simp [intOf]; omega
        · have hv2 : e.file.dur = e.file.bytes.length := by omega
          have HS2 : Hid (crashL ks (S.files.take (k + 1)) = (if 0 < e.file.dur then insK (N, ⟨e.file.bytes.take e.file.dur, e.file.dur⟩) C.1 else C.1, C.2)) := by
            show _ = _
            rw [HST.out]
            unfold crashStep leftN
            rw [if_neg hv]
            simp only [if_neg hv]
          have hSZ : e.file.dur ≤ e.file.bytes.length := by omega
          have hvi : ¬ (0 : Int) < (e.file.bytes.length : Int) - (e.file.dur : Int) := by omega
          clear hv2 HST
          generalize e.file.dur = SZ at *
          go_wp2
          go_region
          go_upto_region 15 with (fail)
          have hnr : Hid (SZ ≤ e.file.bytes.length) := hSZ
          by_cases hs : 0 < SZ
          · obtain ⟨G, ⟨m2, es2, hx2⟩, hG⟩ := HR.out.left
            have q0 := hx2.head.c0
            have hes2 : es2.length ≤ k := by
              have h1 := congrArg List.length hx2.files
              rw [mapK_len] at h1
              have h2 := (crashL_len (keep := ks) (l := S.files) k (by rw [H.out.files, mapK_len]; omega)).1
              rw [h1] at h2
              exact h2
            have hfr2 : findK N es2 = none := by
              have h1 := HFR.out
              have h2 : (crashL ks (S.files.take k)).1 = mapK EntM.file es2 := hx2.files
              rw [← HC.out, h2, findK_map] at h1
              cases h3 : findK N es2 with
              | none => rfl
              | some x => rw [h3] at h1; cases h1
            have HX := Lib.hid hx2
            have HG := Lib.hid hG
            have HF2 := Lib.hid hfr2
            have hzz : SZ ≤ 140737488355328 := by have := hnr.out; omega
            have hsi : (0 : Int) < (SZ : Int) := by omega
            have hsc : SZ ≤ rc := by have := hnr.out; omega
            have hsci : (SZ : Int) ≤ (rc : Int) := by omega
            clear hx2 hG hfr2 HFR
            go_wp2_with fail
            go_region_with (go_at_call 26; refine (clone_take hs hnr.out hzz (by first | exact HCL.out _ hnr.out | exact HCL.out _ hnr.out)).mono ?_; rintro r wC ⟨aC, cC, rfl, hoC, hbC⟩; have qC : wC.cell? ⟨q, 0, none⟩ = some (.map (some m2)) := (hbC.cell (p := ⟨q, 0, none⟩) HX.out.head.lt).trans q0; have qD := cell_alloc_any qC; obtain ⟨wB, hrun, hB, tB⟩ := (HX.out.below (w' := wr.drew.drew) (below_drew2 _)).lay (s := ⟨N.toArray⟩) (by unfold maxLen; omega) HN.out HF2.out (by unfold maxLen; omega) hbC (l := e.file.bytes.take SZ) (n := SZ) (by rw [List.length_take]; have := hnr.out; omega) hoC rfl)
            all_goals
              go_wp2
              go_roundw
              case rel => exact ⟨k + 1, by omega, by go_num, by rw [HS2.out], (HR.out.below (below_drew2 _)).next hFb.out HG.out hB HX.out.fm tB (by show Bx.mk (insK (N, _) (crashL ks (List.take k S.files)).1) (-1) false = _; rw [HS2.out, if_pos hs, HC.out])⟩
              case measure => simp [intOf]; omega
          · have hs0 : SZ = 0 := by omega
            have hsi : ¬ ((0 : Int) < (SZ : Int)) := by omega
            go_wp2
            go_roundw
            case rel => exact ⟨k + 1, by omega, by go_num, by rw [HS2.out], (HR.out.same (by rw [HS2.out, if_neg (by omega), HC.out])).below (below_drew _)⟩
            case measure => simp [intOf]; omega
    · obtain rfl : k = es.length := by omega
      have hf2 : S.files.length = es.length := by rw [H.out.files, mapK_len]
      have htk : S.files.take es.length = S.files := by rw [← hf2, List.take_length]
      have HT := Lib.hid htk
      have HR := Lib.hid hrel
      clear hrel htk hf2
      go_wp2
      go_ret
      have hr := HR.out
      obtain ⟨G, hg, hG⟩ := hr.left
      rw [HT.out] at hg
      exact ⟨q, rfl, ⟨m, es, hr.old.mono hF0.out⟩, hg.mono (fun j hj => ⟨(hG j hj).1, (hG j hj).2.1⟩), hr.turn⟩
end Go.Proofs.YtlgpkbcefaldoaaDoor

/- Layer 3: contracts of the reference's Read, Sync. -/
import Derived.Test.YtnjphflaggefeaaW03p
import Derived.Test.YtnjphflaggefeaaW03j
import Derived.RegionTactic
namespace Go.Proofs.Ytnjphflaggefeaa
open Go.RowKit Go.Maps Go.WideMaps
set_option linter.unusedVariables false

theorem below_drawn (w : World) (n : Nat) : Below w.heap.size w (w.drewN n) := below_drewN (Below.refl _ w) n

theorem text_join {a b l : List UInt8} (h : a ++ b = l) : ((⟨a.toArray⟩ : ByteArray) ++ ⟨b.toArray⟩) = ⟨l.toArray⟩ := by
  apply ByteArray.ext
  apply Array.toList_inj.1
  simp [← h]

theorem find_at {n : Key} {l : List (Key × FileS)} (hr : Rising l) {f : FileS} (hf : findK n l = some f) : ∃ h : placeK n l < l.length, l[placeK n l].1 = n ∧ l[placeK n l].2 = f := by
  rw [find_place hr] at hf
  split at hf
  · rename_i h
    refine ⟨h, ?_⟩
    split at hf
    · rename_i h2
      injection hf with hf
      exact ⟨h2, hf⟩
    · cases hf
  · cases hf

set_option maxHeartbeats 1000000 in
set_option maxRecDepth 100000 in
theorem ref_read {w : World} {p : Nat} {S : Bx} {F : Nat → Prop} (h : RefAt w p S F) (s : ByteArray) (hz : weigh S.files ≤ 140737488355328) :
    Calls Try.prog 22 #[.pointer (some ⟨p, 0, none⟩), .string s] w fun r w' => r = .returned (.tuple #[tx (S.read s.data.toList).1, .int .i64 (S.read s.data.toList).2]) ∧ Below w.heap.size w w' := by
  obtain ⟨v, h⟩ := h
  have hat := rat_any h s
  by_cases hd : S.down = true
  · rw [Bx.read_down hd]
    have c2 := h.c2
    rw [hd] at c2
    clear h hd
    go_enter Try.func22, Try.ntmps22
    go_wp2_with fail
    refine hat.mono ?_
    rintro r w1 ⟨rfl, n, rfl⟩
    go_wp2
    go_ret2
    exact ⟨rfl, below_drawn _ _⟩
  · have hd' : S.down = false := by simpa using hd
    have c2 := h.c2
    rw [hd'] at c2
    cases hf : findK s.data.toList S.files with
    | none =>
      rw [Bx.read_none hd' hf]
      rw [hf] at hat
      clear h hd hd' hf
      go_enter Try.func22, Try.ntmps22
      go_wp2_with fail
      refine hat.mono ?_
      rintro r w1 ⟨rfl, n, rfl⟩
      go_wp2
      go_ret2
      exact ⟨rfl, below_drawn _ _⟩
    | some f =>
      rw [Bx.read_some hd' hf]
      rw [hf] at hat
      obtain ⟨hpl, hk, hv⟩ := find_at h.ok.rising hf
      have hlen := findK_len hf
      obtain ⟨g, cap, rfl, hgp, hcap, hcm, q0, q1, q2, _⟩ := h.file hpl
      have c0 := h.c0
      rw [hv] at q1 q2
      have hj := text_join (List.take_append_drop f.dur f.bytes)
      have HJ := Lib.hid hj
      have s1 : (ByteArray.mk (f.bytes.take f.dur).toArray).size ≤ 140737488355328 := by show (f.bytes.take f.dur).toArray.size ≤ _; simp; omega
      have s2 : (ByteArray.mk (f.bytes.drop f.dur).toArray).size ≤ 140737488355328 := by show (f.bytes.drop f.dur).toArray.size ≤ _; simp; omega
      unfold tx at q1 q2
      unfold maxLen at hcm
      generalize placeK s.data.toList S.files = k at *
      generalize ByteArray.mk (f.bytes.take f.dur).toArray = x1 at *
      generalize ByteArray.mk (f.bytes.drop f.dur).toArray = x2 at *
      clear h hd hd' hf hk hv hj q0
      go_enter Try.func22, Try.ntmps22
      go_wp2_with fail
      refine hat.mono ?_
      rintro r w1 ⟨rfl, n, rfl⟩
      go_wp2
      go_quiet (fail)
      go_wp2
      go_ret2
      exact ⟨by unfold tx; rw [← HJ.out]; rfl, below_drewN (below_drewN (Below.refl _ w) _) _⟩

theorem set_same {α : Type} {l : List α} {i : Nat} {a : α} (h : l[i]? = some a) : l.set i a = l := by
  apply List.ext_getElem?
  intro j
  rw [List.getElem?_set]
  split
  · rename_i e
    subst e
    split
    · exact h.symm
    · rename_i h2; rw [List.getElem?_eq_none (by omega)]
  · rfl
theorem rcells_set : ∀ (l : List (Key × FileS)) (i : Nat) (h : i < l.length) (x : Key × FileS), rcells (l.set i x) = (((rcells l).set (i * 3) (tx x.1)).set (i * 3 + 1) (tx (x.2.bytes.take x.2.dur))).set (i * 3 + 2) (tx (x.2.bytes.drop x.2.dur))
  | y :: r, 0, _, x => rfl
  | y :: r, i + 1, h, x => by
    rw [List.set_cons_succ, rcells_cons, rcells_set r i (by simpa using h) x, rcells_cons]
    rw [List.set_append_right _ _ (by simp; omega), List.set_append_right _ _ (by simp; omega), List.set_append_right _ _ (by simp; omega)]
    simp only [List.length_cons, List.length_nil]
    rw [show (i + 1) * 3 - (0 + 1 + 1 + 1) = i * 3 by omega, show (i + 1) * 3 + 1 - (0 + 1 + 1 + 1) = i * 3 + 1 by omega, show (i + 1) * 3 + 2 - (0 + 1 + 1 + 1) = i * 3 + 2 by omega]
theorem ownsRow_set {w : World} {e : TypeId} {size g n cap : Nat} {xs : List Value} (h : w.ownsRow 0 e size (.slice (some ⟨g, 0, none⟩) n cap) n xs) {j : Nat} (hj : j < n * size) (u : Value) : (w.setCell ⟨g, j, none⟩ u).ownsRow 0 e size (.slice (some ⟨g, 0, none⟩) n cap) n (xs.set j u) := by
  refine ⟨by rw [List.length_set]; exact h.1, ?_⟩
  rcases h.2 with ⟨h1, _⟩ | ⟨g', cap', cur, h1, h2, h3, h4, h5, h6, h7⟩
  · simp at h1
  · simp only [Value.slice.injEq, Option.some.injEq, Addr.mk.injEq, and_true, true_and] at h1
    obtain ⟨rfl, rfl⟩ := h1
    refine .inr ⟨g, cap, cur.setIfInBounds j u, rfl, h2, block_set h3 j u, h4, h5, by simpa using h6, ?_⟩
    rw [← h7]
    simp [List.take_set]
theorem rising_keys {l l' : List (Key × FileS)} (h : Rising l) (he : l'.map (·.1) = l.map (·.1)) : Rising l' := by
  have h1 : (l.map (·.1)).Pairwise fun a b => bytesBefore a b = true := by rw [List.pairwise_map]; exact h
  rw [← he, List.pairwise_map] at h1
  exact h1

/-- A file of the reference's is written: two stores. -/
theorem RefIn.upd {w : World} {p g cap : Nat} {S : Bx} {F : Nat → Prop} (h : RefIn w p (.slice (some ⟨g, 0, none⟩) S.files.length cap) S F) {n : Key} {f : FileS} (hf : findK n S.files = some f) (f' : FileS) (hd : f'.dur ≤ f'.bytes.length) {w2 : World}
    (t : Turn (fun k => k = g) w w2) (hr : w2.ownsRow 0 68 3 (.slice (some ⟨g, 0, none⟩) S.files.length cap) S.files.length (((rcells S.files).set (placeK n S.files * 3 + 1) (tx (f'.bytes.take f'.dur))).set (placeK n S.files * 3 + 2) (tx (f'.bytes.drop f'.dur)))) :
    RefAt w2 p ⟨updK n f' S.files, S.fuel, S.down⟩ F ∧ Turn F w w2 := by
  obtain ⟨hpl, hk, hv⟩ := find_at h.ok.rising hf
  have hg : F g := h.frow g rfl
  refine ⟨⟨_, ⟨t.keeps h.head (fun e => h.rowNe (k := g) rfl e.symm), ?_, h.fp, h.frow, ⟨rising_keys h.ok.rising (updK_keys _ _ _), fun x hx => ?_⟩, h.hi⟩⟩, t.mono (fun i hi => by subst hi; exact .inl hg)⟩
  · show w2.ownsRow 0 _ 3 _ (updK n f' S.files).length (rcells (updK n f' S.files))
    rw [updK_len, upd_place h.ok.rising hf, rcells_set _ _ hpl, show ((n, f') : Key × FileS).1 = S.files[placeK n S.files].1 from hk.symm, set_same (rcells_at S.files _ hpl).1]
    exact hr
  · rcases mem_upd hx with rfl | hx
    · exact hd
    · exact h.ok.dur x hx

set_option maxHeartbeats 1000000 in
set_option maxRecDepth 100000 in
theorem ref_sync {w : World} {p : Nat} {S : Bx} {F : Nat → Prop} (h : RefAt w p S F) (s : ByteArray) (hz : weigh S.files ≤ 140737488355328) :
    Calls Try.prog 15 #[.pointer (some ⟨p, 0, none⟩), .string s] w fun r w' => r = .returned (.int .i64 (S.sync s.data.toList).2) ∧ RefAt w' p (S.sync s.data.toList).1 F ∧ Turn F w w' := by
  obtain ⟨v, h⟩ := h
  have hat := rat_any h s
  have H := Lib.hid h
  by_cases hd : S.down = true
  · rw [Bx.sync_down hd]
    have c2 := h.c2
    rw [hd] at c2
    clear h hd
    go_enter Try.func15, Try.ntmps15
    go_wp2_with fail
    refine hat.mono ?_
    rintro r w1 ⟨rfl, n, rfl⟩
    go_wp2
    go_ret
    exact ⟨rfl, RefAt.below ⟨v, H.out⟩ (below_drawn _ _), Turn.of_below _ (below_drawn _ _)⟩
  · have hd' : S.down = false := by simpa using hd
    have c2 := h.c2
    rw [hd'] at c2
    cases hf : findK s.data.toList S.files with
    | none =>
      rw [Bx.sync_none hd' hf]
      rw [hf] at hat
      clear h hd hd' hf
      go_enter Try.func15, Try.ntmps15
      go_wp2_with fail
      refine hat.mono ?_
      rintro r w1 ⟨rfl, n, rfl⟩
      go_wp2
      go_ret
      exact ⟨rfl, RefAt.below ⟨v, H.out⟩ (below_drawn _ _), Turn.of_below _ (below_drawn _ _)⟩
    | some f =>
      rw [Bx.sync_some hd' hf]
      rw [hf] at hat
      have HF := Lib.hid hf
      by_cases h0 : S.fuel = 0
      · rw [Bx.change_no h0]
        have H0 := Lib.hid h0
        clear h hd hd' hf h0
        go_enter Try.func15, Try.ntmps15
        go_wp2_with fail
        refine hat.mono ?_
        rintro r w1 ⟨rfl, n, rfl⟩
        go_wp2_with fail
        refine (rburn_no (H.out.below (below_drawn _ n)) H0.out).mono ?_
        rintro r w2 ⟨rfl, h2, t2⟩
        go_wp2
        go_ret
        exact ⟨rfl, ⟨v, h2⟩, (Turn.of_below _ (below_drawn _ _)).trans (t2.toF H.out.fp) (fun i hi => .inl hi)⟩
      · rw [Bx.change_yes h0]
        have H0 := Lib.hid h0
        clear h hd hd' hf h0
        go_enter Try.func15, Try.ntmps15
        go_wp2_with fail
        refine hat.mono ?_
        rintro r w1 ⟨rfl, n, rfl⟩
        go_wp2_with fail
        refine (rburn_ok (H.out.below (below_drawn _ n)) H0.out).mono ?_
        rintro r w2 ⟨rfl, h2, t2⟩
        obtain ⟨hpl, hk, hv⟩ := find_at h2.ok.rising HF.out
        have hlen := findK_len HF.out
        obtain ⟨g, cap, rfl, hgp, hcap, hcm, q0, q1, q2, hfr⟩ := h2.file hpl
        have c0 := h2.c0
        rw [hv] at q1 q2
        have hj := text_join (List.take_append_drop f.dur f.bytes)
        have HJ := Lib.hid hj
        have s1 : (ByteArray.mk (f.bytes.take f.dur).toArray).size ≤ 140737488355328 := by show (f.bytes.take f.dur).toArray.size ≤ _; simp; omega
        have s2 : (ByteArray.mk (f.bytes.drop f.dur).toArray).size ≤ 140737488355328 := by show (f.bytes.drop f.dur).toArray.size ≤ _; simp; omega
        have f1 := hfr (placeK s.data.toList S.burnt.files * 3 + 1)
        have f2 := hfr (placeK s.data.toList S.burnt.files * 3 + 2)
        have T2 := Lib.hid t2
        have H2 := Lib.hid h2
        unfold tx at q1 q2
        unfold maxLen at hcm
        have hkb : placeK s.data.toList S.burnt.files < S.burnt.files.length := hpl
        have HK : Hid (placeK s.data.toList S.files = placeK s.data.toList S.burnt.files) := rfl
        have HX1 : Hid (ByteArray.mk (f.bytes.take f.dur).toArray ++ ByteArray.mk (f.bytes.drop f.dur).toArray = ⟨f.bytes.toArray⟩) := hj
        generalize hkk : placeK s.data.toList S.burnt.files = k at *
        generalize ByteArray.mk (f.bytes.take f.dur).toArray = x1 at *
        generalize ByteArray.mk (f.bytes.drop f.dur).toArray = x2 at *
        have HKK := Lib.hid hkk
        clear hpl hk hv q0 hj hkk h2 t2 hfr
        rw [HK.out]
        go_upto_region 8 with (fail)
        go_region
        go_wp2_with fail
        go_ret
        rw [HX1.out]
        have hrow := ownsRow_set (ownsRow_set ((H2.out.below (below_drew _)).row) (j := k * 3 + 1) (by have : S.burnt.files.length = S.files.length := rfl; omega) (.string ⟨f.bytes.toArray⟩)) (j := k * 3 + 2) (by have : S.burnt.files.length = S.files.length := rfl; omega) (.string ⟨#[]⟩)
        have hu := H2.out.upd HF.out (firmF f) (Nat.le_refl _) (((Turn.of_below (fun k => k = g) (below_drew w2)).setCell (p := ⟨g, k * 3 + 1, none⟩) (.inl rfl) _).setCell (p := ⟨g, k * 3 + 2, none⟩) (.inl rfl) _) (by
          show World.ownsRow _ 0 _ 3 _ _ (((rcells S.files).set (placeK s.data.toList S.burnt.files * 3 + 1) (tx (f.bytes.take f.bytes.length))).set (placeK s.data.toList S.burnt.files * 3 + 2) (tx (f.bytes.drop f.bytes.length)))
          rw [HKK.out, List.take_length, List.drop_length]
          exact hrow)
        exact ⟨rfl, hu.1, ((Turn.of_below _ (below_drawn _ _)).trans (T2.out.toF H.out.fp) (fun i hi => .inl hi)).trans hu.2 (fun i hi => .inl hi)⟩
end Go.Proofs.Ytnjphflaggefeaa

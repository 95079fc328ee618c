/- Layer 4: the parts of WalTimes: a log, and beside it a slice that is appended to. -/
import Derived.Test.YtlgpkbcefaldoaaDoorW04h
import Derived.Test.YtlgpkbcefaldoaaDoorM04f
import Derived.Test.YtlgpkbcefaldoaaDoorWS
import Derived.Maps.AppendAt
namespace Go.Proofs.YtlgpkbcefaldoaaDoor
open Go.RowKit Go.Maps Go.WideMaps Go.Shelf
set_option linter.unusedVariables false

theorem LogIn.kept {w w' : World} {q p c : Nat} {nm : ByteArray} {a : Bool} {S : Bx} {F G : Nat → Prop} (h : LogIn w q p nm c a S F) (t : Turn G w w') (hF : ∀ k, G k → ¬ With F q k) (hg : ¬ G 0) : LogIn w' q p nm c a S F :=
  ⟨h.box.kept t (fun k hk hG => hF k hG (.inl hk)), h.head.turn t (fun hG => hF q hG (.inr rfl)), h.nq, h.nm1, h.nm8, h.cur1, h.cur8, h.tab.turn t hg, h.ng, h.qg⟩

/-- A box of firm segments, and beside it a slice of the records in them. -/
structure TimesRel (w wr : World) (p : Nat) (av : Value) (xs : List (List UInt8)) (i N : Nat) : Prop where
  ex : ∃ T F fs, BoxAt wr p T F ∧ Up T ∧ LInv [120] fs [] 0 T ∧ scans fs = xs ∧ fs.length = i ∧ weigh T.files ≤ N ∧ (∀ k, F k → w.heap.size ≤ k ∧ k < wr.heap.size) ∧ (∀ k, av.ownBlock = some k → ¬ F k)
  row : wr.ownsRow w.heap.size 9 1 av xs.length (xs.map tx)
  tab : Tab wr
  below : Below w.heap.size w wr

/-- .. and a log that is appended to: xs in the older segments, last in its own; ys in the slice. -/
structure TimesLog (w wr : World) (q p : Nat) (av : Value) (ys xs last : List (List UInt8)) (d i N : Nat) : Prop where
  ex : ∃ S F fs, LogIn wr q p ⟨#[120]⟩ (i + 1) (!last.isEmpty) S F ∧ Up S ∧ LInv [120] fs last d S ∧ scans fs = xs ∧ fs.length = i ∧ weigh S.files ≤ N ∧ (∀ k, F k → w.heap.size ≤ k ∧ k < wr.heap.size) ∧ (∀ k, av.ownBlock = some k → ¬ With F q k)
  row : wr.ownsRow w.heap.size 9 1 av ys.length (ys.map tx)
  q0 : w.heap.size ≤ q
  below : Below w.heap.size w wr

section
variable {w wr w' : World} {q p i N d : Nat} {av : Value} {ys xs last : List (List UInt8)}
theorem TimesRel.drewN (h : TimesRel w wr p av xs i N) (n : Nat) : TimesRel w (wr.drewN n) p av xs i N := by
  obtain ⟨⟨T, F, fs, h1, h2⟩, h3, h4, h5⟩ := h
  have hb : Below wr.heap.size wr (wr.drewN n) := ⟨rfl, rfl, rfl, Nat.le_refl _, fun _ _ => rfl⟩
  exact ⟨⟨T, F, fs, h1.below hb, h2⟩, ownsRow_below h3 hb, h4.below hb, below_next h5 (Nat.le_refl _) hb⟩
theorem TimesLog.later (h : TimesLog w wr q p av ys xs last d i N) (hb : Below wr.heap.size wr w') : TimesLog w w' q p av ys xs last d i N := by
  obtain ⟨⟨S, F, fs, h1, h2, h3, h4, h5, h6, h7, h8⟩, h9, h10, h11⟩ := h
  exact ⟨⟨S, F, fs, h1.below hb, h2, h3, h4, h5, h6, fun k hk => ⟨(h7 k hk).1, by have := (h7 k hk).2; have := hb.size; omega⟩, h8⟩, ownsRow_below h9 hb, h10, below_next h11 (Nat.le_refl _) hb⟩

theorem tl_open (h : TimesRel w wr p av xs i N) (hg : 0 < w.heap.size) (hN : N ≤ 16777216) :
    Calls Tryd.prog 8 #[.pointer (some ⟨p, 0, none⟩), .string ⟨#[120]⟩] wr fun e w' => ∃ q v, e = .returned (.tuple #[.pointer (some ⟨q, 0, none⟩), v, .int .i64 0]) ∧ TimesLog w w' q p av xs xs [] 0 i N ∧
      w'.ownsRow wr.heap.size 9 1 v xs.length (xs.map tx) := by
  obtain ⟨⟨T, F, fs, h1, h2, h3, h4, h5, h6, h7, h8⟩, h9, h10, h11⟩ := h
  have hr := h3.recs
  have hl := h3.len
  refine (open_ok (nm := ⟨#[120]⟩) h1 (fun k hk => (h7 k hk).2) h10 (fun hk => by have := (h7 _ hk).1; omega) (by decide) (by decide) h2.up (by rw [show curOf (ByteArray.mk #[120]).data.toList T.files = fs.length + 1 from hr.2]; omega)
    (fun x hx _ => by have := bytes_weigh hx; omega) (by omega)).mono ?_
  rintro e w' ⟨q, v, he, hq, hL, ho, hb⟩
  rw [show recsL (ByteArray.mk #[120]).data.toList T.files = xs from hr.1.trans h4] at ho
  rw [show curOf (ByteArray.mk #[120]).data.toList T.files = i + 1 from by rw [← h5]; exact hr.2] at hL
  refine ⟨q, v, he, ⟨⟨T, F, fs, hL, h2, h3, h4, h5, h6, fun k hk => ⟨(h7 k hk).1, by have := (h7 k hk).2; have := hb.size; omega⟩, fun k hk hW => ?_⟩, ownsRow_below h9 hb, by have := h11.size; omega, below_next h11 (Nat.le_refl _) hb⟩, ho⟩
  rcases hW with hW | hW
  · exact h8 k hk hW
  · have := (h9.lt k hk).2; omega
theorem tl_append (h : TimesLog w wr q p av ys xs last d i N) (r : ByteArray) (hr : r.size ≤ 1048576) (hN : N ≤ 16777216) :
    Calls Tryd.prog 10 #[.pointer (some ⟨q, 0, none⟩), .string r] wr fun e w' => e = .returned (.int .i64 0) ∧ TimesLog w w' q p av ys xs (last ++ [r.data.toList]) d i (N + r.size + 15) := by
  obtain ⟨⟨S, F, fs, h1, h2, h3, h4, h5, h6, h7, h8⟩, h9, h10, h11⟩ := h
  have hrl : r.data.toList.length ≤ 1048576 := by rw [Array.length_toList]; exact hr
  obtain ⟨g1, g2, g3⟩ := h3.up_append h2 (by decide) hrl
  have hc : segName (ByteArray.mk #[120]).data.toList (i + 1) = segName [120] (fs.length + 1) := by rw [h5]
  have hap := log_append h1 r hr (by omega)
  rw [hc] at hap
  refine hap.mono ?_
  rintro e w' ⟨he, hl, ht⟩
  rw [g1] at he
  rw [if_pos g1] at hl
  have hw := S.append_weigh (segName [120] (fs.length + 1)) (frameL r.data.toList)
  have hf := frameL_le hrl
  have e1 : r.data.toList.length = r.size := by rw [Array.length_toList]; rfl
  have hs := ht.size
  have h0 := h11.size
  refine ⟨he, ⟨_, _, fs, by rw [show (!(last ++ [r.data.toList]).isEmpty) = true by simp]; exact hl, g2, g3, h4, h5, by omega, fun k hk => ?_, fun k hk hW => ?_⟩, ht.row h9 (fun k hk => h8 k hk), h10, h11.trans (turn_own ht (fun k hk => (h7 k hk).1) h10 h0)⟩
  · rcases hk with hk | hk
    · exact ⟨(h7 k hk).1, by have := (h7 k hk).2; omega⟩
    · exact ⟨by omega, hk.2⟩
  · rcases hW with hW | hW
    · rcases hW with hW | hW
      · exact h8 k hk (.inl hW)
      · have := (h9.lt k hk).2; omega
    · exact h8 k hk (.inr hW)
theorem tl_sync (h : TimesLog w wr q p av ys xs last d i N) (hne : last ≠ []) :
    Calls Tryd.prog 12 #[.pointer (some ⟨q, 0, none⟩)] wr fun e w' => e = .returned (.int .i64 0) ∧ TimesLog w w' q p av ys xs last last.length i N := by
  obtain ⟨⟨S, F, fs, h1, h2, h3, h4, h5, h6, h7, h8⟩, h9, h10, h11⟩ := h
  obtain ⟨g1, g2, g3⟩ := h3.up_sync h2 hne
  have ha : (!last.isEmpty) = true := by cases last <;> simp_all
  rw [ha] at h1
  have hc : segName (ByteArray.mk #[120]).data.toList (i + 1) = segName [120] (fs.length + 1) := by rw [h5]
  have hap := log_sync h1
  rw [hc] at hap
  refine hap.mono ?_
  rintro e w' ⟨he, hl, ht⟩
  rw [g1] at he
  have hs := ht.size
  have h0 := h11.size
  exact ⟨he, ⟨_, F, fs, by rw [ha]; exact hl, g2, g3, h4, h5, by have := S.sync_weigh (segName [120] (fs.length + 1)); omega, fun k hk => ⟨(h7 k hk).1, by have := (h7 k hk).2; omega⟩, h8⟩, ht.row h9 (fun k hk hf => h8 k hk (.inl hf)), h10, h11.trans (turn_own (turn_with ht) (fun k hk => (h7 k hk).1) h10 h0)⟩
theorem tl_sync_no (h : TimesLog w wr q p av ys xs [] d i N) :
    Calls Tryd.prog 12 #[.pointer (some ⟨q, 0, none⟩)] wr fun e w' => e = .returned (.int .i64 0) ∧ wr = w' := by
  obtain ⟨⟨S, F, fs, h1, _⟩, _⟩ := h
  exact log_sync_no h1

/-- One text is appended to the slice. -/
theorem tl_push (h : TimesLog w wr q p av ys xs last d i N) (hg : 0 < w.heap.size) {av' : Value} {y : List UInt8} (ho : w'.ownsRow w.heap.size 9 1 av' (ys.length + 1) (ys.map tx ++ [tx y])) (hgr : wr.grownBy w' av.ownBlock)
    (hat : av'.ownBlock = av.ownBlock ∨ ∀ k, av'.ownBlock = some k → wr.heap.size ≤ k) : TimesLog w w' q p av' (ys ++ [y]) xs last d i N := by
  obtain ⟨⟨S, F, fs, h1, h2, h3, h4, h5, h6, h7, h8⟩, h9, h10, h11⟩ := h
  have hs := hgr.size
  have t : Turn (fun k => av.ownBlock = some k) wr w' := (Turn.refl (fun k => av.ownBlock = some k) wr).grown hgr (fun k hk => .inl hk)
  refine ⟨⟨S, F, fs, h1.kept t (fun k hk => h8 k hk) (fun hk => by have := (h9.lt _ hk).1; omega), h2, h3, h4, h5, h6, fun k hk => ⟨(h7 k hk).1, by have := (h7 k hk).2; omega⟩, fun k hk hW => ?_⟩, by rw [List.length_append, List.map_append]; exact ho, h10, ?_⟩
  · rcases hat with hat | hat
    · rw [hat] at hk; exact h8 k hk hW
    · have := hat k hk
      rcases hW with hW | hW
      · have := (h7 k hW).2; omega
      · have := h1.head.lt; omega
  · exact h11.trans (t.below (fun k hk => (h9.lt k hk).1) h11.size)

/-- Numbers in a row of the call's own. -/
theorem ints_own {F : Nat → Prop} {B n : Nat} {v : Value} {ks : List Int} (h : w.ownsRow B 3 1 v n (ks.map fun k => .int .i64 k)) (hF : ∀ k, F k → k < B) (hn : ks.length = n) (hm : n ≤ 9223372036854775807) (hks : ∀ k ∈ ks, -9223372036854775808 ≤ k ∧ k ≤ 9223372036854775807) : IntsAt F w v ks := by
  obtain ⟨a, cap, rfl, hR⟩ := row1_own h hm
  have hlt := h.lt
  refine ⟨⟨a, cap, by rw [hn], ?_⟩, by omega, hks⟩
  rcases hR.row with h0 | ⟨b, off, rfl, hb, hc⟩
  · exact .inl (by omega)
  · by_cases h0 : n = 0
    · exact .inl (by omega)
    · refine .inr ⟨b, off, rfl, hb, fun hf => ?_, fun j hj => ?_⟩
      · have h1 := hF b hf
        rcases h.2 with ⟨h2, _⟩ | ⟨g, cap', cur, h2, h3, _⟩
        · simp at h2
        · injection h2 with h2
          injection h2 with h2
          injection h2 with h2 h4
          omega
      · rw [hc j (by omega)]
        simp [List.getD, hj]
def torn : ByteArray := ⟨#[116, 111, 114, 110, 44, 32, 97, 110, 100, 32, 108, 111, 115, 116]⟩

/-- The crash behind a torn record; wo: the world ahead of the numbers' row. -/
theorem tl_crash {wo : World} {recs : List (List UInt8)} (h : TimesLog w wo q p av ys xs (recs ++ [torn.data.toList]) recs.length i N) (hb : Below wo.heap.size wo wr) (hy : ys = xs ++ recs) (hi : i + 2 ≤ 99999999) (hN : N ≤ 16777216) {v : Value} {ks : List Int}
    (hk : wr.ownsRow wo.heap.size 3 1 v ks.length (ks.map fun k => .int .i64 k)) (hm : ks.length ≤ 9223372036854775807) (hks : ∀ k ∈ ks, -9223372036854775808 ≤ k ∧ k ≤ 9223372036854775807) (hk0 : 1 ≤ keptN ks 0) (hk5 : keptN ks 0 ≤ 5) :
    Calls Tryd.prog 13 #[.pointer (some ⟨p, 0, none⟩), v] wr fun e w' => ∃ p2, e = .returned (.pointer (some ⟨p2, 0, none⟩)) ∧ TimesRel w w' p2 av ys (i + 1) N := by
  obtain ⟨⟨S, F, fs, h1, h2, h3, h4, h5, h6, h7, h8⟩, h9, h10, h11⟩ := h
  have hls := h3.dle
  have hne : recs ++ [torn.data.toList] ≠ [] := by simp
  have hlen : recs.length < (recs ++ [torn.data.toList]).length := by simp
  have hen := endL_next hlen
  have hfr : 18 ≤ (frameL (recs ++ [torn.data.toList])[recs.length]).length := by
    have e : (recs ++ [torn.data.toList])[recs.length] = torn.data.toList := by simp
    rw [e, frameL_len]
    have : torn.data.toList.length = 14 := rfl
    omega
  have hmo := endL_mono (recs ++ [torn.data.toList]) (a := recs.length + 1) (b := (recs ++ [torn.data.toList]).length) (by simp) (Nat.le_refl _)
  have hcut := cutN_eq hls ks
  have hc2 : cutN (recs ++ [torn.data.toList]) recs.length ks = endL (recs ++ [torn.data.toList]) recs.length + keptN ks 0 := by omega
  have hnx := h3.crash_next hne ks (by omega) (by omega)
  have hsc := cut_scan h3.small hls ks (j := recs.length) hls (by omega) (by intro _; omega) (cutN (recs ++ [torn.data.toList]) recs.length ks)
  rw [List.take_left] at hsc
  have hI : IntsAt F wr v ks := ints_own hk (fun k hk => (h7 k hk).2) rfl hm hks
  have hbx := h1.box.below hb
  have hp : F p := by obtain ⟨m, es, hx⟩ := hbx; exact hx.fp
  refine (box_crash hbx hI (by omega)).mono ?_
  rintro e w' ⟨p2, he, _, hn, t⟩
  have hs := t.size
  have hsb := hb.size
  have h0 := h11.size
  have hav := ownsRow_below h9 hb
  refine ⟨p2, he, ⟨_, _, _, hn, Up.crash S ks, hnx, ?_, by rw [List.length_append, List.length_singleton, h5], by have := S.crash_weigh ks; omega, fun k hk => by have := hk.1; have := hk.2; omega, fun k hk hf => ?_⟩, t.row hav (fun k hk e => ?_), ?_, ?_⟩
  · rw [scans_append, h4, hy]
    congr 1
    show scan1 _ ++ [] = _
    rw [List.append_nil]; exact hsc
  · have := (hav.lt k hk).2; have := hf.1; omega
  · have e' : k = p := e
    subst e'
    exact h8 _ hk (.inl hp)
  · exact (h1.tab.below hb).turn t (fun e => h1.ng (by have e' : _ = p := e; rw [e']; exact hp))
  · exact (below_next h11 (Nat.le_refl _) hb).trans (t.below (fun j hj => by have e' : j = p := hj; subst e'; exact (h7 _ hp).1) (by omega))
end
end Go.Proofs.YtlgpkbcefaldoaaDoor

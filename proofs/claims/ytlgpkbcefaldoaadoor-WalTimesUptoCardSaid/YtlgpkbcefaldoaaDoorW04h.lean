/- Layer 4: a log of the call's own whose box has fuel without end. -/
import Derived.Test.YtlgpkbcefaldoaaDoorW04g
import Derived.Test.YtlgpkbcefaldoaaDoorM04d
namespace Go.Proofs.YtlgpkbcefaldoaaDoor
open Go.RowKit Go.Maps Go.WideMaps Go.Shelf
set_option linter.unusedVariables false

/-- A log whose box is up, with fuel without end: its older segments, the records of the current one, how many of them are durable; how much the box weighs at most. -/
def LogUp (B : Nat) (w : World) (q p : Nat) (nm : ByteArray) (fs : List FileS) (last : List (List UInt8)) (d N : Nat) : Prop :=
  ∃ S, LogOwn B w q p nm (fs.length + 1) (!last.isEmpty) S ∧ Up S ∧ LInv nm.data.toList fs last d S ∧ weigh S.files ≤ N
section
variable {B : Nat} {w w' : World} {q p : Nat} {nm : ByteArray} {fs : List FileS} {last : List (List UInt8)} {d N : Nat}
theorem LogUp.below (h : LogUp B w q p nm fs last d N) (hb : Below w.heap.size w w') : LogUp B w' q p nm fs last d N := by
  obtain ⟨S, h1, h2⟩ := h
  exact ⟨S, h1.below hb, h2⟩
theorem LogUp.drew (h : LogUp B w q p nm fs last d N) : LogUp B w.drew q p nm fs last d N := h.below (below_drew w)
theorem LogUp.size (h : LogUp B w q p nm fs last d N) : B ≤ w.heap.size := by
  obtain ⟨S, h1, h2⟩ := h
  exact h1.size
theorem LogUp.mono {M : Nat} (h : LogUp B w q p nm fs last d N) (hm : N ≤ M) : LogUp B w q p nm fs last d M := by
  obtain ⟨S, h1, h2, h3, h4⟩ := h
  exact ⟨S, h1, h2, h3, by omega⟩

theorem lu_append (h : LogUp B w q p nm fs last d N) (r : ByteArray) (hr : r.size ≤ 1048576) (hz : N ≤ 70368744177664) :
    Calls Tryd.prog 10 #[.pointer (some ⟨q, 0, none⟩), .string r] w fun e w' => e = .returned (.int .i64 0) ∧ LogUp B w' q p nm fs (last ++ [r.data.toList]) d (N + r.size + 15) ∧ Below B w w' := by
  obtain ⟨S, h1, h2, h3, h4⟩ := h
  have hn8 : nm.data.toList.length ≤ 8 := by obtain ⟨F, hf, _⟩ := h1; rw [Array.length_toList]; exact hf.nm8
  have hrl : r.data.toList.length ≤ 1048576 := by rw [Array.length_toList]; exact hr
  obtain ⟨g1, g2, g3⟩ := h3.up_append h2 hn8 hrl
  refine (lo_append h1 r hr (by omega)).mono ?_
  rintro e w' ⟨he, hl, hb⟩
  rw [g1] at he
  rw [if_pos g1] at hl
  refine ⟨he, ⟨_, by rw [show (!(last ++ [r.data.toList]).isEmpty) = true by simp]; exact hl, g2, g3, ?_⟩, hb⟩
  have hw := S.append_weigh (segName nm.data.toList (fs.length + 1)) (frameL r.data.toList)
  have hf := frameL_le hrl
  have e : r.data.toList.length = r.size := by rw [Array.length_toList]; rfl
  omega
theorem lu_sync (h : LogUp B w q p nm fs last d N) (hne : last ≠ []) :
    Calls Tryd.prog 12 #[.pointer (some ⟨q, 0, none⟩)] w fun e w' => e = .returned (.int .i64 0) ∧ LogUp B w' q p nm fs last last.length N ∧ Below B w w' := by
  obtain ⟨S, h1, h2, h3, h4⟩ := h
  obtain ⟨g1, g2, g3⟩ := h3.up_sync h2 hne
  have ha : (!last.isEmpty) = true := by cases last <;> simp_all
  rw [ha] at h1
  refine (lo_sync h1).mono ?_
  rintro e w' ⟨he, hl, hb⟩
  rw [g1] at he
  exact ⟨he, ⟨_, by rw [ha]; exact hl, g2, g3, by have := S.sync_weigh (segName nm.data.toList (fs.length + 1)); omega⟩, hb⟩
theorem lu_sync_no (h : LogUp B w q p nm fs [] d N) :
    Calls Tryd.prog 12 #[.pointer (some ⟨q, 0, none⟩)] w fun e w' => e = .returned (.int .i64 0) ∧ w = w' := by
  obtain ⟨S, h1, h2, h3, h4⟩ := h
  exact lo_sync_no h1
theorem lu_rotate (h : LogUp B w q p nm fs last d N) (hne : last ≠ []) (hl : fs.length + 2 ≤ 99999999) :
    Calls Tryd.prog 11 #[.pointer (some ⟨q, 0, none⟩)] w fun e w' => e = .returned (.tuple #[.int .i64 ((fs.length + 1 : Nat) : Int), .int .i64 0]) ∧ LogUp B w' q p nm (fs ++ [⟨framesL last, (framesL last).length⟩]) [] 0 N ∧ Below B w w' := by
  obtain ⟨S, h1, h2, h3, h4⟩ := h
  obtain ⟨g1, g2, g3⟩ := h3.up_sync h2 hne
  have ha : (!last.isEmpty) = true := by cases last <;> simp_all
  rw [ha] at h1
  refine (lo_rotate h1 (by omega) g1).mono ?_
  rintro e w' ⟨he, hl', hb⟩
  refine ⟨he, ⟨_, ?_, g2, g3.close hne hl, by have := S.sync_weigh (segName nm.data.toList (fs.length + 1)); omega⟩, hb⟩
  rw [List.length_append, List.length_singleton]
  exact hl'
theorem lu_crash (h : LogUp B w q p nm fs last d N) {v : Value} {ks : List Int} (hks : IntsAt (fun k => B ≤ k ∧ k < w.heap.size) w v ks) (hN : N ≤ 8796093022208) :
    Calls Tryd.prog 13 #[.pointer (some ⟨p, 0, none⟩), v] w fun r w' => ∃ q2 S, r = .returned (.pointer (some ⟨q2, 0, none⟩)) ∧ LInv nm.data.toList fs last d S ∧ Own B w' q2 (S.crash ks) ∧ weigh (S.crash ks).files ≤ N ∧ Tab w' ∧ Below B w w' := by
  obtain ⟨S, h1, h2, h3, h4⟩ := h
  exact (lo_crash h1 hks (by omega)).mono fun e w' ⟨q2, he, ho, ht, hb⟩ => ⟨q2, S, he, h3, ho, by have := S.crash_weigh ks; omega, ht, hb⟩
/-- Open of a box all of whose segments are firm. -/
theorem lu_open {S : Bx} (h : Own B w p S) (hB : B ≤ w.heap.size) (ht : Tab w) (hg : 0 < B) (h1 : 1 ≤ nm.size) (h8 : nm.size ≤ 8) (hU : Up S) (hI : LInv nm.data.toList fs [] 0 S)
    (hz : ∀ x ∈ S.files, segNum nm.data.toList x.1 ≠ 0 → x.2.bytes.length ≤ 16777216) (hw : weigh S.files ≤ N) (hN : N ≤ 8796093022208) :
    Calls Tryd.prog 8 #[.pointer (some ⟨p, 0, none⟩), .string nm] w fun e w' => ∃ q v, e = .returned (.tuple #[.pointer (some ⟨q, 0, none⟩), v, .int .i64 0]) ∧ LogUp B w' q p nm fs [] 0 N ∧
      w'.ownsRow w.heap.size 9 1 v (scans fs).length ((scans fs).map tx) ∧ Below w.heap.size w w' := by
  have hr := hI.recs
  have hl := hI.len
  refine (lo_open h hB ht hg h1 h8 hU.up (by rw [hr.2]; omega) hz (by omega)).mono ?_
  rintro e w' ⟨q, v, he, hlo, ho, hb⟩
  rw [hr.1] at ho
  rw [hr.2] at hlo
  exact ⟨q, v, he, ⟨S, hlo, hU, hI, hw⟩, ho, hb⟩
end
theorem bytes_weigh {l : List (Key × FileS)} {x : Key × FileS} (h : x ∈ l) : x.2.bytes.length ≤ weigh l := by
  induction l with
  | nil => cases h
  | cons y r ih =>
    rw [weigh_cons]
    rcases List.mem_cons.1 h with rfl | h
    · omega
    · have := ih h; omega

/-- The table of powers of ten, at whatever the call makes of the world. -/
theorem tab_later {w w' : World} (h : Tab w) (hb : Below w.heap.size w w') : Tab w' := h.below hb

set_option maxHeartbeats 1000000 in
set_option maxRecDepth 100000 in
theorem awake4_any {w : World} (ht : Tab w) :
    Calls Tryd.prog 6 #[] w fun e w' => e = .returned (.bool true) ∧ Below w.heap.size w w' := by
  have HT := Lib.hid ht
  have hgl := ht.lt
  have HCU : Hid (cutN [[97], [98]] 1 [] = endL [[97], [98]] 1 ∧ endL [[97], [98]] 1 < endL [[97], [98]] 2) := by
    refine ⟨by rw [cutN_eq (by decide)]; simp [keptN], ?_⟩
    have h1 := endL_next (ls := [[97], [98]]) (k := 1) (by decide)
    have h2 := frameL_pos ([[97], [98]] : List (List UInt8))[1]
    show endL [[97], [98]] 1 < endL [[97], [98]] (1 + 1)
    omega
  clear ht
  go_enter Tryd.func6, Tryd.ntmps6
  go_wp2_with fail
  refine (own_new w.heap.size _ (Nat.le_refl _)).mono ?_
  rintro e w1 ⟨p, rfl, h1, b1⟩
  go_wp2_with fail
  refine (lu_open (nm := ⟨#[120]⟩) (fs := []) (N := 0) h1 b1.size (tab_later HT.out b1) hgl (by decide) (by decide) Up.new (LInv.start _) (by intro x hx; cases hx) (by decide) (by decide)).mono ?_
  rintro e w2 ⟨q, v, rfl, h2, ho2, c2⟩
  have B2 := Lib.hid (below_next b1 (Nat.le_refl _) c2)
  obtain ⟨va, vc, rfl⟩ := ownsRow_slice ho2
  have H2 := Lib.hid h2
  clear h1 b1 c2 h2 ho2
  go_wp2_with fail
  refine (lu_append H2.out ⟨#[97]⟩ (by decide) (by decide)).mono ?_
  rintro e w3 ⟨rfl, h3, c3⟩
  have B3 := Lib.hid (B2.out.trans c3)
  have H3 := Lib.hid h3
  clear h3 c3
  go_wp2_with fail
  refine (lu_sync H3.out (by simp)).mono ?_
  rintro e w4 ⟨rfl, h4, c4⟩
  have B4 := Lib.hid (B3.out.trans c4)
  have H4 := Lib.hid h4
  clear h4 c4
  go_wp2_with fail
  refine (lu_append H4.out ⟨#[98]⟩ (by decide) (by decide)).mono ?_
  rintro e w5 ⟨rfl, h5, c5⟩
  have B5 := Lib.hid (B4.out.trans c5)
  have H5 := Lib.hid h5
  clear h5 c5
  go_wp2_with fail
  refine (lu_crash H5.out (ints_nil _ _) (by decide)).mono ?_
  rintro e w6 ⟨p2, S, rfl, hI, h6, hw6, ht6, c6⟩
  have B6 := Lib.hid (B5.out.trans c6)
  have hI : LInv [120] [] [[97], [98]] 1 S := hI
  have hw6 : weigh (S.crash []).files ≤ 32 := hw6
  have hcp : 0 < cutN [[97], [98]] 1 [] := by rw [HCU.out.1, endL_next (by decide)]; have := frameL_pos [97]; simp; omega
  have hN := hI.crash_next (by decide) [] hcp (by decide)
  have hsc : scans ([] ++ [⟨(framesL [[97], [98]]).take (cutN [[97], [98]] 1 []), cutN [[97], [98]] 1 []⟩]) = [[97]] := by
    show scan1 _ ++ [] = _
    rw [List.append_nil, cut_scan hI.small hI.dle [] (j := 1) (by decide) (by rw [HCU.out.1]; exact Nat.le_refl _) (by intro _; rw [HCU.out.1]; exact HCU.out.2)]
    rfl
  have hop := lu_open (nm := ⟨#[120]⟩) h6 B6.out.size ht6 hgl (by decide) (by decide) (Up.crash S []) hN (fun x hx _ => by have := bytes_weigh hx; omega) hw6 (by decide)
  rw [hsc] at hop
  have HOP := Lib.hid hop
  clear hop hN hI hsc h6 hw6 ht6 c6 hcp
  go_wp2_with fail
  refine HOP.out.mono ?_
  rintro e w7 ⟨q2, v2, rfl, h7, ho7, c7⟩
  have B7 := Lib.hid (below_next B6.out (Nat.le_refl _) c7)
  obtain ⟨xa, xc, hx, hR⟩ := row1_own ho7 (by decide)
  subst hx
  obtain ⟨b, off, rfl, _, hcell⟩ := hR.at (k := 0) (by decide)
  have hcell : w7.cell? ⟨b, off, none⟩ = some (.string ⟨#[97]⟩) := hcell
  clear h7 ho7 c7 hR HOP
  go_wp2
  go_ret
  exact ⟨rfl, B7.out⟩
end Go.Proofs.YtlgpkbcefaldoaaDoor

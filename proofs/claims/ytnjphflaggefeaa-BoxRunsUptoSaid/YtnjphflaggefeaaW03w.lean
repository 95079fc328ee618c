/- Layer 3: the walk of BoxRuns. -/
import Derived.Test.YtnjphflaggefeaaW03v
import Derived.Test.YtnjphflaggefeaaW03k
import Derived.Test.YtnjphflaggefeaaM03c
import Derived.WalkArith
import Derived.Deep.CutBlock
import Derived.Deep.CutRange
import Derived.Deep.RegionHeld3
namespace Go.Proofs.Ytnjphflaggefeaa
open Go.RowKit Go.Maps Go.WideMaps
set_option linter.unusedVariables false

/-- A box and the reference's, apart from each other, all of the call's own. -/
structure Two (w wr : World) (p q : Nat) (S T : Bx) (F G : Nat → Prop) : Prop where
  box : BoxAt wr p S F
  ref : RefAt wr q T G
  apart : ∀ j, F j → ¬ G j
  f : ∀ j, F j → w.heap.size ≤ j ∧ j < wr.heap.size
  g : ∀ j, G j → w.heap.size ≤ j ∧ j < wr.heap.size
  below : Below w.heap.size w wr

section
variable {w wr w' : World} {p q : Nat} {S T S' T' : Bx} {F G : Nat → Prop}
theorem Two.later (h : Two w wr p q S T F G) (hb : Below wr.heap.size wr w') : Two w w' p q S T F G :=
  ⟨h.box.below hb, h.ref.below hb, h.apart, fun j hj => ⟨(h.f j hj).1, by have := (h.f j hj).2; have := hb.size; omega⟩, fun j hj => ⟨(h.g j hj).1, by have := (h.g j hj).2; have := hb.size; omega⟩, below_next h.below (Nat.le_refl _) hb⟩
theorem Two.drew (h : Two w wr p q S T F G) : Two w wr.drew p q S T F G := h.later (below_drew wr)
theorem Two.onBox (h : Two w wr p q S T F G) (hb : BoxAt w' p S' (Grew F wr w')) (t : Turn F wr w') : Two w w' p q S' T (Grew F wr w') G := by
  have hs := t.size
  have h0 := h.below.size
  refine ⟨hb, h.ref.kept t (fun j hj hf => h.apart j hf hj), fun j hj hg => ?_, fun j hj => ?_, fun j hj => ⟨(h.g j hj).1, by have := (h.g j hj).2; omega⟩, h.below.trans (t.below (fun j hj => (h.f j hj).1) h0)⟩
  · rcases hj with hj | hj
    · exact h.apart j hj hg
    · have := (h.g j hg).2; omega
  · rcases hj with hj | hj
    · exact ⟨(h.f j hj).1, by have := (h.f j hj).2; omega⟩
    · exact ⟨by omega, hj.2⟩
theorem Two.onRef (h : Two w wr p q S T F G) (hb : RefAt w' q T' (Grew G wr w')) (t : Turn G wr w') : Two w w' p q S T' F (Grew G wr w') := by
  have hs := t.size
  have h0 := h.below.size
  refine ⟨h.box.kept t (fun j hj hg => h.apart j hj hg), hb, fun j hj hg => ?_, fun j hj => ⟨(h.f j hj).1, by have := (h.f j hj).2; omega⟩, fun j hj => ?_, h.below.trans (t.below (fun j hj => (h.g j hj).1) h0)⟩
  · rcases hg with hg | hg
    · exact h.apart j hj hg
    · have := (h.f j hj).2; omega
  · rcases hj with hj | hj
    · exact ⟨(h.g j hj).1, by have := (h.g j hj).2; omega⟩
    · exact ⟨by omega, hj.2⟩
end

theorem grew_box {w w' : World} {p : Nat} {S : Bx} {F : Nat → Prop} (h : BoxAt w' p S F) : BoxAt w' p S (Grew F w w') := h.mono (fun k hk => .inl hk)
theorem grew_ref {w w' : World} {p : Nat} {S : Bx} {F : Nat → Prop} (h : RefAt w' p S F) : RefAt w' p S (Grew F w w') := h.mono (fun k hk => .inl hk)

/-- A cell that neither has. -/
theorem cell_turn {F : Nat → Prop} {w w' : World} (t : Turn F w w') {b i : Nat} {v : Value} (h : w.cell? ⟨b, i, none⟩ = some v) (hf : ¬ F b) : w'.cell? ⟨b, i, none⟩ = some v :=
  (World.cell?_of_block (w := w) (t.block b (World.block_lt_of_cell? w ⟨b, i, none⟩ h) hf)).trans h

/-- The local call under way. -/
structure Loc (w : World) (b : Nat) (F G : Nat → Prop) (nm dt : ByteArray) (num : Int) (kp : Value) : Prop where
  c1 : w.cell? ⟨b, 1, none⟩ = some (.string nm)
  c2 : w.cell? ⟨b, 2, none⟩ = some (.string dt)
  c3 : w.cell? ⟨b, 3, none⟩ = some (.int .i64 num)
  c4 : w.cell? ⟨b, 4, none⟩ = some kp
  nf : ¬ F b
  ng : ¬ G b
theorem Loc.onF {w w' : World} {b : Nat} {F G : Nat → Prop} {nm dt : ByteArray} {num : Int} {kp : Value} (h : Loc w b F G nm dt num kp) (t : Turn F w w') (hb : b < w.heap.size) : Loc w' b (Grew F w w') G nm dt num kp :=
  ⟨cell_turn t h.c1 h.nf, cell_turn t h.c2 h.nf, cell_turn t h.c3 h.nf, cell_turn t h.c4 h.nf, fun hh => by rcases hh with hh | hh; exact h.nf hh; omega, h.ng⟩
theorem Loc.onG {w w' : World} {b : Nat} {F G : Nat → Prop} {nm dt : ByteArray} {num : Int} {kp : Value} (h : Loc w b F G nm dt num kp) (t : Turn G w w') (hb : b < w.heap.size) : Loc w' b F (Grew G w w') nm dt num kp :=
  ⟨cell_turn t h.c1 h.ng, cell_turn t h.c2 h.ng, cell_turn t h.c3 h.ng, cell_turn t h.c4 h.ng, h.nf, fun hh => by rcases hh with hh | hh; exact h.ng hh; omega⟩
theorem Loc.drew {w : World} {b : Nat} {F G : Nat → Prop} {nm dt : ByteArray} {num : Int} {kp : Value} (h : Loc w b F G nm dt num kp) : Loc w.drew b F G nm dt num kp := ⟨h.c1, h.c2, h.c3, h.c4, h.nf, h.ng⟩

set_option maxHeartbeats 400000 in
set_option maxRecDepth 100000 in
theorem down_append {w : World} {p : Nat} {S : Bx} {F : Nat → Prop} (h : BoxAt w p S F) (hd : S.down = true) (s d : ByteArray) :
    Calls Try.prog 12 #[.pointer (some ⟨p, 0, none⟩), .string s, .string d] w fun r w' => r = .returned (.int .i64 30) ∧ w = w' := by
  obtain ⟨m, es, h⟩ := h
  have hdn := isDown_any (d := true) (by have := h.head; rw [hd] at this; exact this)
  clear hd h
  go_enter Try.func12, Try.ntmps12
  go_wp2_with fail
  refine hdn.mono ?_
  rintro r w1 ⟨rfl, rfl⟩
  go_wp2
  go_ret
  exact ⟨rfl, rfl⟩
set_option maxHeartbeats 400000 in
set_option maxRecDepth 100000 in
theorem down_sync {w : World} {p : Nat} {S : Bx} {F : Nat → Prop} (h : BoxAt w p S F) (hd : S.down = true) (s : ByteArray) :
    Calls Try.prog 14 #[.pointer (some ⟨p, 0, none⟩), .string s] w fun r w' => r = .returned (.int .i64 30) ∧ w = w' := by
  obtain ⟨m, es, h⟩ := h
  have hc := ftc_down h hd s
  clear hd h
  go_enter Try.func14, Try.ntmps14
  go_wp2_with fail
  refine hc.mono ?_
  rintro r w1 ⟨rfl, rfl⟩
  go_wp2
  go_ret
  exact ⟨rfl, rfl⟩
set_option maxHeartbeats 400000 in
set_option maxRecDepth 100000 in
theorem down_delete {w : World} {p : Nat} {S : Bx} {F : Nat → Prop} (h : BoxAt w p S F) (hd : S.down = true) (s : ByteArray) :
    Calls Try.prog 16 #[.pointer (some ⟨p, 0, none⟩), .string s] w fun r w' => r = .returned (.int .i64 30) ∧ w = w' := by
  obtain ⟨m, es, h⟩ := h
  have hc := ftc_down h hd s
  clear hd h
  go_enter Try.func16, Try.ntmps16
  go_wp2_with fail
  refine hc.mono ?_
  rintro r w1 ⟨rfl, rfl⟩
  go_wp2
  go_ret
  exact ⟨rfl, rfl⟩

theorem turn_w (B : Nat) {w w' : World} (h : Below B w w') : Turn (fun k => B ≤ k) w w' := ⟨h.os, h.tape, h.output, h.size, fun k _ hk => h.block k (by omega)⟩
theorem ints_at {w wx : World} {kp : Value} {ks : List Int} (h : IntsAt (fun k => w.heap.size ≤ k) w kp ks) (hb : Below w.heap.size w wx) {F : Nat → Prop} (hF : ∀ j, F j → w.heap.size ≤ j) : IntsAt F wx kp ks :=
  (h.turn (turn_w w.heap.size hb) (fun k hk => hk)).fit (fun k hk => .inl (hF k hk))

/-- Both have crashed. -/
structure CrashEnd (w wx : World) (p p2 q2 : Nat) (S : Bx) (ks : List Int) : Prop where
  old : ∃ F, BoxAt wx p S.fall F
  two : ∃ F G, Two w wx p2 q2 (S.crash ks) (S.crash ks) F G

theorem crash_box_ref {w wr wA wB : World} {p q p2 q2 : Nat} {S : Bx} {F G : Nat → Prop} {ks : List Int} (h : Two w wr p q S S F G) (hp : F p) (o : BoxAt wA p S.fall F) (n : BoxAt wA p2 (S.crash ks) (fun k => wr.heap.size ≤ k ∧ k < wA.heap.size)) (t : Turn (fun k => k = p) wr wA)
    (n2 : RefAt wB q2 (S.crash ks) (fun k => wA.heap.size ≤ k ∧ k < wB.heap.size)) (t2 : Turn G wA wB) : CrashEnd w wB p p2 q2 S ks := by
  have s1 := t.size
  have s2 := t2.size
  have s0 := h.below.size
  have hpw := (h.f p hp).1
  refine ⟨⟨F, o.kept t2 (fun j hj hg => h.apart j hj hg)⟩, ⟨_, _, n.kept t2 (fun j hj hg => by have := (h.g j hg).2; omega), n2, fun j hj hg => by omega, fun j hj => by omega, fun j hj => by omega, ?_⟩⟩
  exact (h.below.trans (t.below (fun j hj => by subst hj; exact hpw) (by omega))).trans (t2.below (fun j hj => (h.g j hj).1) (by omega))
theorem crash_ref_box {w wr wA wB : World} {p q p2 q2 : Nat} {S : Bx} {F G : Nat → Prop} {ks : List Int} (h : Two w wr p q S S F G) (hp : F p) (n2 : RefAt wB q2 (S.crash ks) (fun k => wr.heap.size ≤ k ∧ k < wB.heap.size)) (t2 : Turn G wr wB)
    (o : BoxAt wA p S.fall F) (n : BoxAt wA p2 (S.crash ks) (fun k => wB.heap.size ≤ k ∧ k < wA.heap.size)) (t : Turn (fun k => k = p) wB wA) : CrashEnd w wA p p2 q2 S ks := by
  have s1 := t.size
  have s2 := t2.size
  have s0 := h.below.size
  have hpw := h.f p hp
  refine ⟨⟨F, o⟩, ⟨_, _, n, n2.kept t (fun j hj hg => by subst hg; omega), fun j hj hg => by omega, fun j hj => by omega, fun j hj => by omega, ?_⟩⟩
  exact (h.below.trans (t2.below (fun j hj => (h.g j hj).1) (by omega))).trans (t.below (fun j hj => by subst hj; exact hpw.1) (by omega))

theorem mid_box {w wr wA : World} {p q : Nat} {S T : Bx} {F G : Nat → Prop} (h : Two w wr p q S T F G) (hp : F p) (t : Turn (fun k => k = p) wr wA) : RefAt wA q T G ∧ Below w.heap.size w wA :=
  ⟨h.ref.kept t (fun j hj e => by have e' : j = p := e; subst e'; exact h.apart _ hp hj), h.below.trans (t.below (fun j hj => by have e' : j = p := hj; subst e'; exact (h.f _ hp).1) h.below.size)⟩
theorem mid_ref {w wr wB : World} {p q : Nat} {S T : Bx} {F G : Nat → Prop} (h : Two w wr p q S T F G) (t : Turn G wr wB) : BoxAt wB p S F ∧ Below w.heap.size w wB :=
  ⟨h.box.kept t (fun j hj hg => h.apart j hj hg), h.below.trans (t.below (fun j hj => (h.g j hj).1) h.below.size)⟩

/-- The head of a round of BoxRuns. -/
structure Runs (w wr : World) (p q : Nat) (n : Nat) : Prop where
  ex : ∃ S F G, Two w wr p q S S F G ∧ weigh S.files ≤ n
theorem Runs.mk' {w wr : World} {p q n : Nat} {S : Bx} {F G : Nat → Prop} (h : Two w wr p q S S F G) (hw : weigh S.files ≤ n) : Runs w wr p q n := ⟨S, F, G, h, hw⟩

set_option maxHeartbeats 2000000 in
set_option maxRecDepth 100000 in
theorem runs_walk (a0 : Option Addr) (l0 c0 : Nat) (cs : List CallS) (w : World) (h0 : CallsRow w a0 cs) (hs : cs.length = l0) (hB : callsW cs ≤ 1048576) :
    Calls Try.prog 3 #[.slice a0 l0 c0] w fun e w' => e = .returned (.bool true) ∧ Below w.heap.size w w' := by
  have m0 := h0.max
  obtain rfl := hs
  go_enter Try.func3, Try.ntmps3
  go_wp2_with fail
  refine (awake3_any _).mono ?_
  rintro e w1 ⟨rfl, b1⟩
  go_wp2_with fail
  refine (box_new _).mono ?_
  rintro e w2 ⟨p, rfl, _, h2, c2⟩
  go_wp2_with fail
  refine (ref_new _).mono ?_
  rintro e w3 ⟨q, rfl, h3, c3⟩
  have hst : Runs w w3 p q 0 := by
    have g1 := b1.size
    have g2 := c2.size
    have g3 := c3.size
    refine Runs.mk' (S := Bx.new) ⟨h2.below c3, h3, fun j hj hg => by have := hj.2; have := hg.1; omega, fun j hj => ⟨by have := hj.1; omega, by have := hj.2; omega⟩, fun j hj => ⟨by have := hj.1; omega, hj.2⟩, below_next (below_next b1 (Nat.le_refl _) c2) (Nat.le_refl _) c3⟩ (by decide)
  have HST := Lib.hid hst
  have H0 := Lib.hid h0
  clear h2 h3 b1 c2 c3 hst h0
  go_wp2
  go_loopw [3, 4, 18] (fun bv mv iv wr => ∃ (k p q : Nat), k ≤ cs.length ∧ iv = .int .i64 (k : Int) ∧ bv = .pointer (some ⟨p, 0, none⟩) ∧ mv = .pointer (some ⟨q, 0, none⟩) ∧ Hid (Runs w wr p q (callsW (cs.take k)))) (fun _ _ iv _ => cs.length - (intOf iv).toNat)
  case atStart => exact ⟨0, p, q, by omega, rfl, rfl, rfl, HST.out⟩
  case round =>
    clear HST
    obtain ⟨k, p, q, hk, rfl, rfl, rfl, HR⟩ := hrel
    obtain ⟨S, F, G, h2, hwt⟩ := HR.out
    have hmono := callsW_mono cs k
    by_cases hlt : k < cs.length
    · obtain ⟨b, off, rfl, q0, q1, q2, q3, q4, hok⟩ := H0.out.at h2.below hlt
      have hz1 := callsW_take hlt
      have hz2 := callsW_mono cs (k + 1)
      have HOK := Lib.hid hok
      obtain ⟨⟨kv, kc, hkv, _⟩, _, _⟩ := hok.ks
      clear hok
      generalize cs[k] = C at *
      obtain ⟨kind, nm, dt, num, kp, ks⟩ := C
      simp only at *
      subst hkv
      go_upto_region 7 with (fail)
      have hbl := (Below.refl wr.heap.size wr).alloc (Nat.le_refl _) (.cells #[.int .i64 kind, .string nm, .string dt, .int .i64 num, .slice kv ks.length kc] 30)
      have hnew := heap_alloc_new wr (.cells #[.int .i64 kind, .string nm, .string dt, .int .i64 num, .slice kv ks.length kc] 30)
      have l0' : (wr.alloc (.cells #[.int .i64 kind, .string nm, .string dt, .int .i64 num, .slice kv ks.length kc] 30)).cell? ⟨wr.heap.size, 0, none⟩ = some (.int .i64 kind) := by rw [block_cell hnew]; rfl
      have hloc : Loc (wr.alloc (.cells #[.int .i64 kind, .string nm, .string dt, .int .i64 num, .slice kv ks.length kc] 30)) wr.heap.size F G nm dt num (.slice kv ks.length kc) :=
        ⟨by rw [block_cell hnew]; rfl, by rw [block_cell hnew]; rfl, by rw [block_cell hnew]; rfl, by rw [block_cell hnew]; rfl, fun h => by have := (h2.f _ h).2; omega, fun h => by have := (h2.g _ h).2; omega⟩
      have hlb : wr.heap.size < (wr.alloc (.cells #[.int .i64 kind, .string nm, .string dt, .int .i64 num, .slice kv ks.length kc] 30)).heap.size := by simp
      have TW := Lib.hid (h2.later hbl)
      have LO := Lib.hid hloc
      have hnms : nm.size ≤ 1048576 := by omega
      have hdts : dt.size ≤ 1048576 := by omega
      have hdl : dt.data.toList.length = dt.size := by simp
      have hnms2 : nm.size ≤ maxLen := by unfold maxLen; omega
      clear hbl hnew q0 q1 q2 q3 q4 h2 hloc HR
      generalize wr.alloc (.cells #[.int .i64 kind, .string nm, .string dt, .int .i64 num, .slice kv ks.length kc] 30) = wl at *
      generalize wr.heap.size = lb at *
      have l1 := LO.out.c1
      have l2 := LO.out.c2
      have l3 := LO.out.c3
      have l4 := LO.out.c4
      by_cases k0 : kind = 0
      · subst k0
        have hw1 : weigh S.files + dt.size ≤ 140737488355328 := by omega
        have hw2 : weigh S.files + dt.size ≤ 1099511627776 := by omega
        have hwn := S.append_weigh nm.data.toList dt.data.toList
        have HWN : Hid (weigh (S.append nm.data.toList dt.data.toList).1.files ≤ callsW (cs.take (k + 1))) := by show _ ≤ _; omega
        clear hwn
        go_upto_region 13 with (fail)
        go_cut [66] from 53 to 66 (fun bv wx => bv = .bool false ∧ Hid (Runs w wx p q (callsW (cs.take (k + 1)))))
        case first =>
          go_region_held3 (fun w' => w'.cell? ⟨lb, 1, none⟩ = some (.string nm) ∧ w'.cell? ⟨lb, 2, none⟩ = some (.string dt)) (first | exact ⟨l1a, l2a⟩ | exact ⟨l1b, l2b⟩ | exact ⟨l1, l2⟩)
            (first
            | (go_at_call 12; refine (box_append (by first | exact TWb.out.box | exact TW.out.drew.box) nm dt hnms2 hw1).mono ?_; rintro e wA ⟨rfl, hA, tA⟩; have TWa := Lib.hid (by first | exact TWb.out.onBox hA tA | exact TW.out.drew.onBox hA tA); have LOa := Lib.hid (by first | exact LOb.out.onF tA (Nat.lt_of_lt_of_le hlb tB.size) | exact LO.out.drew.onF tA hlb); have l1a := LOa.out.c1; have l2a := LOa.out.c2)
            | (go_at_call 13; refine (ref_append (by first | exact TWa.out.ref | exact TW.out.drew.ref) nm dt hnms2 hw2).mono ?_; rintro e wB ⟨rfl, hBx, tB⟩; have TWb := Lib.hid (by first | exact TWa.out.onRef hBx tB | exact TW.out.drew.onRef hBx tB); have LOb := Lib.hid (by first | exact LOa.out.onG tB (Nat.lt_of_lt_of_le hlb tA.size) | exact LO.out.drew.onG tB hlb); have l1b := LOb.out.c1; have l2b := LOb.out.c2))
          all_goals go_wp2_with fail
          all_goals go_meet
          all_goals exact ⟨rfl, by first | exact Runs.mk' TWb.out HWN.out | exact Runs.mk' TWa.out HWN.out⟩
        case rest =>
          obtain ⟨rfl, HR2⟩ := hcut
          go_wp2
          go_roundw
          case rel => exact ⟨k + 1, p, q, by omega, by go_num, rfl, rfl, HR2⟩
          case measure => simp [intOf]; omega
      · have k0' : (kind == 0) = false := by simp [k0]
        by_cases k1 : kind = 1
        · subst k1
          have hw1 : weigh S.files ≤ 140737488355328 := by omega
          have hwn := S.sync_weigh nm.data.toList
          have HWN : Hid (weigh (S.sync nm.data.toList).1.files ≤ callsW (cs.take (k + 1))) := by show _ ≤ _; omega
          clear hwn
          go_upto_region 16 with (fail)
          go_cut [77] from 69 to 77 (fun bv wx => bv = .bool false ∧ Hid (Runs w wx p q (callsW (cs.take (k + 1)))))
          case first =>
            go_region_held3 (fun w' => w'.cell? ⟨lb, 1, none⟩ = some (.string nm)) (first | exact l1a | exact l1b | exact l1)
              (first
              | (go_at_call 14; refine (box_sync (by first | exact TWb.out.box | exact TW.out.drew.box) nm hnms2).mono ?_; rintro e wA ⟨rfl, hA, tA⟩; have TWa := Lib.hid (by first | exact TWb.out.onBox (grew_box hA) tA | exact TW.out.drew.onBox (grew_box hA) tA); have LOa := Lib.hid (by first | exact LOb.out.onF tA (Nat.lt_of_lt_of_le hlb tB.size) | exact LO.out.drew.onF tA hlb); have l1a := LOa.out.c1; have l2a := LOa.out.c2)
              | (go_at_call 15; refine (ref_sync (by first | exact TWa.out.ref | exact TW.out.drew.ref) nm hw1).mono ?_; rintro e wB ⟨rfl, hBx, tB⟩; have TWb := Lib.hid (by first | exact TWa.out.onRef (grew_ref hBx) tB | exact TW.out.drew.onRef (grew_ref hBx) tB); have LOb := Lib.hid (by first | exact LOa.out.onG tB (Nat.lt_of_lt_of_le hlb tA.size) | exact LO.out.drew.onG tB hlb); have l1b := LOb.out.c1; have l2b := LOb.out.c2))
            all_goals go_wp2_with fail
            all_goals go_meet
            all_goals exact ⟨rfl, by first | exact Runs.mk' TWb.out HWN.out | exact Runs.mk' TWa.out HWN.out⟩
          case rest =>
            obtain ⟨rfl, HR2⟩ := hcut
            go_wp2
            go_roundw
            case rel => exact ⟨k + 1, p, q, by omega, by go_num, rfl, rfl, HR2⟩
            case measure => simp [intOf]; omega
        · have k1' : (kind == 1) = false := by simp [k1]
          by_cases k2 : kind = 2
          · subst k2
            have hw2 : weigh S.files ≤ 1099511627776 := by omega
            have hwn := S.delete_weigh nm.data.toList
            have HWN : Hid (weigh (S.delete nm.data.toList).1.files ≤ callsW (cs.take (k + 1))) := by show _ ≤ _; omega
            clear hwn
            go_upto_region 19 with (fail)
            go_cut [88] from 80 to 88 (fun bv wx => bv = .bool false ∧ Hid (Runs w wx p q (callsW (cs.take (k + 1)))))
            case first =>
              go_region_held3 (fun w' => w'.cell? ⟨lb, 1, none⟩ = some (.string nm)) (first | exact l1a | exact l1b | exact l1)
                (first
                | (go_at_call 16; refine (box_delete (by first | exact TWb.out.box | exact TW.out.drew.box) nm hnms2).mono ?_; rintro e wA ⟨rfl, hA, tA⟩; have TWa := Lib.hid (by first | exact TWb.out.onBox (grew_box hA) tA | exact TW.out.drew.onBox (grew_box hA) tA); have LOa := Lib.hid (by first | exact LOb.out.onF tA (Nat.lt_of_lt_of_le hlb tB.size) | exact LO.out.drew.onF tA hlb); have l1a := LOa.out.c1; have l2a := LOa.out.c2)
                | (go_at_call 17; refine (ref_delete (by first | exact TWa.out.ref | exact TW.out.drew.ref) nm hw2).mono ?_; rintro e wB ⟨rfl, hBx, tB⟩; have TWb := Lib.hid (by first | exact TWa.out.onRef hBx tB | exact TW.out.drew.onRef hBx tB); have LOb := Lib.hid (by first | exact LOa.out.onG tB (Nat.lt_of_lt_of_le hlb tA.size) | exact LO.out.drew.onG tB hlb); have l1b := LOb.out.c1; have l2b := LOb.out.c2))
              all_goals go_wp2_with fail
              all_goals go_meet
              all_goals exact ⟨rfl, by first | exact Runs.mk' TWb.out HWN.out | exact Runs.mk' TWa.out HWN.out⟩
            case rest =>
              obtain ⟨rfl, HR2⟩ := hcut
              go_wp2
              go_roundw
              case rel => exact ⟨k + 1, p, q, by omega, by go_num, rfl, rfl, HR2⟩
              case measure => simp [intOf]; omega
          · have k2' : (kind == 2) = false := by simp [k2]
            by_cases k3 : kind = 3
            · subst k3
              have HW5 : Hid (weigh S.files ≤ callsW (cs.take (k + 1))) := by show _ ≤ _; omega
              go_wp2_with fail
              refine (box_fuel TW.out.box num (WalkArith.wf_i64 HOK.out.n)).mono ?_
              rintro e wA ⟨rfl, hA, tA⟩
              have TWa := Lib.hid (TW.out.onBox (grew_box hA) tA)
              have LOa := Lib.hid (LO.out.onF tA hlb)
              have l3a := LOa.out.c3
              obtain ⟨v, hR⟩ := TWa.out.ref
              have rc1 := hR.c1
              have rf1 := hR.free 1
              have H2 := Lib.hid (hR.reHead (i := 1) (u := .int .i64 (max num (-1))) (f := num) (d := S.down) rfl HOK.out.n.2)
              have HQ := Lib.hid hR.fp
              clear hA tA hR
              go_wp2
              go_roundw
              case rel => exact ⟨k + 1, p, q, by omega, by go_num, rfl, rfl, Runs.mk' (TWa.out.onRef (grew_ref ⟨v, H2.out.1⟩) (H2.out.2.mono (fun i hi => by have e' : i = q := hi; subst e'; exact .inl HQ.out))) HW5.out⟩
              case measure => simp [intOf]; omega
            · have k3' : (kind == 3) = false := by simp [k3]
              by_cases k4 : kind = 4
              · subst k4
                have hw0 : weigh S.files ≤ 8796093022208 := by omega
                have hw2 : weigh S.files ≤ 1099511627776 := by omega
                have hwc := S.crash_weigh ks
                have HWN : Hid (weigh (S.crash ks).files ≤ callsW (cs.take (k + 1))) := by show _ ≤ _; omega
                clear hwc
                have HP : Hid (F p) := by obtain ⟨_, _, hb0⟩ := TW.out.box; exact hb0.fp
                have HF := Lib.hid (show ∀ j, F j → w.heap.size ≤ j from fun j hj => (TW.out.f j hj).1)
                have HG := Lib.hid (show ∀ j, G j → w.heap.size ≤ j from fun j hj => (TW.out.g j hj).1)
                have HLP : Hid (¬ (fun k => k = p) lb) := by show ¬ _; intro e; have e' : lb = p := e; subst e'; exact LO.out.nf HP.out
                have HLG := Lib.hid LO.out.ng
                go_upto_region 26 with (fail)
                go_cut [3, 4] from 104 to 111 (fun bv mv wx => ∃ p2 q2, bv = .pointer (some ⟨p2, 0, none⟩) ∧ mv = .pointer (some ⟨q2, 0, none⟩) ∧ Hid (CrashEnd w wx p p2 q2 S ks))
                case first =>
                  go_region_held3 (fun w' => w'.cell? ⟨lb, 4, none⟩ = some (.slice kv ks.length kc)) (first | exact l4a | exact l4b | exact l4)
                    (first
                    | (go_at_call 19; refine (box_crash (ks := ks) (by first | exact M2.out.1 | exact TW.out.drew.box) (by first | exact ints_at HOK.out.ks M2.out.2 HF.out | exact ints_at HOK.out.ks TW.out.drew.below HF.out) hw0).mono ?_; rintro e wA ⟨p2, rfl, oA, nA, tA⟩; have EA := Lib.hid (And.intro oA (And.intro nA tA)); have M1 := Lib.hid (by first | exact mid_box TW.out.drew HP.out tA | exact True.intro); have l4a := cell_turn tA (by first | exact l4b | exact l4) HLP.out; clear oA nA tA)
                    | (go_at_call 20; refine (ref_crash (ks := ks) (by first | exact M1.out.1 | exact TW.out.drew.ref) (by first | exact ints_at HOK.out.ks M1.out.2 HG.out | exact ints_at HOK.out.ks TW.out.drew.below HG.out) hw2).mono ?_; rintro e wB ⟨q2, rfl, oB, nB, tB⟩; have EB := Lib.hid (And.intro oB (And.intro nB tB)); have M2 := Lib.hid (by first | exact mid_ref TW.out.drew tB | exact True.intro); have l4b := cell_turn tB (by first | exact l4a | exact l4) HLG.out; clear oB nB tB))
                  all_goals go_wp2_with fail
                  all_goals go_meet
                  all_goals exact ⟨p2, q2, rfl, rfl, by first | exact crash_box_ref TW.out.drew HP.out EA.out.1 EA.out.2.1 EA.out.2.2 EB.out.2.1 EB.out.2.2 | exact crash_ref_box TW.out.drew HP.out EB.out.2.1 EB.out.2.2 EA.out.1 EA.out.2.1 EA.out.2.2⟩
                case rest =>
                  obtain ⟨p2, q2, rfl, rfl, HE⟩ := hcut
                  obtain ⟨F2, ho⟩ := HE.out.old
                  have HO := Lib.hid ho
                  clear ho
                  go_wp2_with fail
                  refine (down_append HO.out rfl _ _).mono ?_
                  rintro e w5 ⟨rfl, rfl⟩
                  go_wp2_with fail
                  refine (down_sync HO.out rfl _).mono ?_
                  rintro e w5 ⟨rfl, rfl⟩
                  go_wp2_with fail
                  refine (down_delete HO.out rfl _).mono ?_
                  rintro e w5 ⟨rfl, rfl⟩
                  go_wp2
                  go_roundw
                  case rel =>
                    obtain ⟨F3, G3, h3⟩ := HE.out.two
                    exact ⟨k + 1, p2, q2, by omega, by go_num, rfl, rfl, Runs.mk' h3 HWN.out⟩
                  case measure => simp [intOf]; omega
              · have k4' : (kind == 4) = false := by simp [k4]
                have hw2 : weigh S.files ≤ 1099511627776 := by omega
                have HW5 : Hid (weigh S.files ≤ callsW (cs.take (k + 1))) := by show _ ≤ _; omega
                go_wp2_with fail
                refine (box_read TW.out.box nm hnms2).mono ?_
                rintro e w5 ⟨rfl, rfl⟩
                go_wp2_with fail
                refine (ref_read TW.out.ref nm (by omega)).mono ?_
                rintro e w6 ⟨rfl, b6⟩
                have TW6 := Lib.hid (TW.out.later b6)
                generalize S.read nm.data.toList = R at *
                unfold tx
                clear b6
                go_wp2_with fail
                refine (same3_any TW6.out.box TW6.out.ref hw2).mono ?_
                rintro e w7 ⟨rfl, b7⟩
                have TW7 := Lib.hid (TW6.out.later b7)
                clear b7
                go_wp2
                go_roundw
                case rel => exact ⟨k + 1, p, q, by omega, by go_num, rfl, rfl, Runs.mk' TW7.out HW5.out⟩
                case measure => simp [intOf]; omega
    · obtain rfl : k = cs.length := by omega
      have T2 := Lib.hid h2
      clear HR h2
      have hwx : weigh S.files ≤ 1099511627776 := by omega
      go_wp2_with fail
      refine (same3_any T2.out.box T2.out.ref hwx).mono ?_
      rintro e w9 ⟨rfl, b9⟩
      go_wp2
      go_ret
      exact ⟨rfl, below_next T2.out.below (Nat.le_refl _) b9⟩
end Go.Proofs.Ytnjphflaggefeaa

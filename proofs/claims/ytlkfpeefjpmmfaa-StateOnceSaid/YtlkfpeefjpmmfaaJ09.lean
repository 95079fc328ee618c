/- Joined: R12e R13 R13f. -/
import Derived.Test.YtlkfpeefjpmmfaaJ07
import Derived.Test.YtlkfpeefjpmmfaaJ08
import Derived.Deep.QuietTactic
import Derived.BigQuiet
import Derived.Deep.Cut
import Derived.Deep.RegionHeld3
import Derived.Test.YtlkfpeefjpmmfaaM13
import Derived.Test.YtlkfpeefjpmmfaaShelf
import Derived.Lib.IndexLaws

namespace Go.Proofs.Ytlkfpeefjpmmfaa
open Go.RowKit
set_option linter.unusedVariables false

/-- A text of these bytes. -/
def bx (l : List UInt8) : ByteArray := ⟨l.toArray⟩
theorem bx_size (l : List UInt8) : (bx l).size = l.length := by show l.toArray.size = _; simp
theorem bx_app (a b : List UInt8) : bx a ++ bx b = bx (a ++ b) := by unfold bx; rw [text_form]
def encS (p : ProgS) : ByteArray := if progB p = true then bx (encProg p) else bx []
def encE (p : ProgS) : Nat := if progB p = true then 0 else 130
/-- What stands behind so many steps. -/
def encTo (p : ProgS) (i : Nat) : List UInt8 := putL p.limit.toNat ++ putL p.steps.length ++ encSteps (p.steps.take i)
theorem encTo_all (p : ProgS) : encTo p p.steps.length = encProg p := by unfold encTo encProg; rw [List.take_length]
theorem encTo_next {p : ProgS} {i : Nat} (h : i < p.steps.length) : encTo p (i + 1) = encTo p i ++ encStep p.steps[i] := by
  unfold encTo
  rw [encSteps_next h]
  simp only [List.append_assoc]
theorem progB_parts {p : ProgS} (h : progB p = true) : p.steps.length ≤ 16 ∧ 0 ≤ p.limit ∧ p.limit ≤ 16000 ∧ p.steps.all stepB = true := by
  unfold progB at h
  simp only [Bool.and_eq_true, decide_eq_true_eq, inB_iff] at h
  exact ⟨h.1.1, h.1.2.1, h.1.2.2, h.2⟩
theorem all_part : ∀ {l : List StepS} (n : Nat), l.all stepB = true → (l.take n).all stepB = true := fun n h =>
  List.all_eq_true.2 fun x hx => List.all_eq_true.1 h x (List.mem_of_mem_take hx)
theorem encTo_len {p : ProgS} (h : progB p = true) (i : Nat) : (encTo p i).length ≤ 800 := by
  obtain ⟨h1, h2, h3, h4⟩ := progB_parts h
  have a1 := putL_small (show p.limit.toNat < 16384 by omega)
  have a2 := putL_small (show p.steps.length < 16384 by omega)
  have a3 := encSteps_len (p.steps.take i) (all_part i h4)
  have a4 : (p.steps.take i).length ≤ 16 := by rw [List.length_take]; omega
  unfold encTo
  rw [List.length_append, List.length_append]
  omega
/-- What may be a step's numbers. -/
theorem step_nums {x : StepS} (h : stepB x = true) : (x.kind = 1 ∧ ∃ t u : Nat, x.tries = t ∧ x.undoTries = u ∧ t ≤ 5 ∧ u ≤ 5 ∧ x.name.size ≤ 16 ∧ x.undo.size ≤ 16) ∨ (x.kind = 2 ∧ ∃ n : Nat, x.wait = n ∧ n ≤ 1000) ∨ (x.kind = 3 ∧ x.name.size ≤ 16) := by
  unfold stepB at h
  split at h
  · rename_i hk
    unfold undoB at h
    simp only [Bool.and_eq_true, decide_eq_true_eq, inB_iff] at h
    obtain ⟨hu, ⟨hn, ht1, ht2⟩, hw⟩ := h
    have hns := name_size hn
    have hus : x.undo.size ≤ 16 ∧ 0 ≤ x.undoTries ∧ x.undoTries ≤ 5 := by
      split at hu
      · rename_i h0
        simp only [decide_eq_true_eq] at hu
        omega
      · simp only [Bool.and_eq_true, inB_iff] at hu
        have := name_size hu.1
        omega
    exact .inl ⟨hk, x.tries.toNat, x.undoTries.toNat, by omega, by omega, by omega, by omega, hns.2, hus.1⟩
  · split at h
    · rename_i hk
      simp only [Bool.and_eq_true, decide_eq_true_eq, inB_iff] at h
      exact .inr (.inl ⟨hk, x.wait.toNat, by omega, by omega⟩)
    · split at h
      · rename_i hk
        simp only [Bool.and_eq_true, decide_eq_true_eq] at h
        exact .inr (.inr ⟨hk, (name_size h.1.1.1.1).2⟩)
      · cases h
theorem rint_bx (a : Nat) (ha : a ≤ 9223372036854775807) (w : World) :
    Calls Try.prog 87 #[.int .i64 (a : Int)] w fun e w' => e = .returned (.string (bx (putL a))) ∧ Below w.heap.size w w' := rint_any a ha w
theorem rtext_bx (s : ByteArray) (hs : s.size ≤ 140737488355328) (w : World) :
    Calls Try.prog 88 #[.string s] w fun e w' => e = .returned (.string (bx (textL s))) ∧ Below w.heap.size w w' := rtext_any s hs w

set_option maxHeartbeats 4000000 in
set_option maxRecDepth 100000 in
theorem rencode_any {w : World} {a : Option Addr} {c : Nat} (p : ProgS) (h : ReadG w (.slice a p.steps.length c) p.steps) :
    Calls Try.prog 72 #[p.val' a c] w fun e w' => e = .returned (.tuple #[.string (encS p), .int .i64 (encE p : Nat)]) ∧ Below w.heap.size w w' := by
  obtain ⟨w0, hw0⟩ : ∃ w0, w.alloc (.cells #[.slice a p.steps.length c, .int .i64 p.limit] 26) = w0 := ⟨_, rfl⟩
  have hb0 : Below w.heap.size w w0 := by rw [← hw0]; exact (Below.refl _ w).alloc (Nat.le_refl _) _
  have hnw : w0.heap[w.heap.size]? = some (.cells #[.slice a p.steps.length c, .int .i64 p.limit] 26 (0, 0)) := by rw [← hw0]; exact heap_alloc_new _ _
  have hri := rright_any p (h.below hb0)
  have HNW := Lib.hid hnw
  have H := Lib.hid (h.below hb0)
  have HB := Lib.hid hb0
  have c0 : w0.cell? ⟨w.heap.size, 0, none⟩ = some (.slice a p.steps.length c) := by rw [block_cell hnw]; rfl
  have c1 : w0.cell? ⟨w.heap.size, 1, none⟩ = some (.int .i64 p.limit) := by rw [block_cell hnw]; rfl
  have HRI := Lib.hid hri
  by_cases hp : progB p = true
  · have hS : encS p = bx (encProg p) := if_pos hp
    have hE : encE p = 0 := if_pos hp
    rw [hS, hE]
    have HP := Lib.hid hp
    obtain ⟨h1, h2, h3, h4⟩ := progB_parts hp
    have hlen := fun i => encTo_len hp i
    have hall := encTo_all p
    obtain ⟨l, lim⟩ := p
    simp only at h1 h2 h3 h4 c0 c1 hall
    obtain ⟨n, rfl⟩ := Int.eq_ofNat_of_zero_le h2
    have hI1 := fun w => rint_bx n (by omega) w
    have hI2 := fun w => rint_bx l.length (by omega) w
    have z0 : encTo ⟨l, (n : Int)⟩ 0 = putL n ++ putL l.length := by simp [encTo, encSteps]
    have z1 : bx (putL n) ++ bx (putL l.length) = bx (encTo ⟨l, (n : Int)⟩ 0) := by rw [bx_app, z0]
    have s1 : (bx (putL n)).size ≤ 2 := by rw [bx_size]; exact putL_small (by omega)
    have s2 : (bx (putL l.length)).size ≤ 2 := by rw [bx_size]; exact putL_small (by omega)
    have HNX : Hid (∀ i (h : i < l.length), encTo ⟨l, (n : Int)⟩ (i + 1) = encTo ⟨l, (n : Int)⟩ i ++ encStep l[i]) := fun i h => encTo_next (p := ⟨l, (n : Int)⟩) h
    have HAL : Hid (∀ i (h : i < l.length), stepB l[i] = true) := fun i h => List.all_eq_true.1 h4 _ (List.getElem_mem h)
    have HLN : Hid (∀ i, (bx (encTo ⟨l, (n : Int)⟩ i)).size ≤ 800) := fun i => by rw [bx_size]; exact hlen i
    have HEN : Hid (bx (encTo ⟨l, (n : Int)⟩ l.length) = bx (encProg ⟨l, (n : Int)⟩)) := by show _ = _; rw [hall]
    rw [hp] at hri
    unfold ProgS.val' at hri ⊢
    simp only at hri ⊢
    have n1 : ¬ 9223372036854775807 < (bx (putL n)).size + (bx (putL l.length)).size := by omega
    generalize bx (putL n) = T1 at *
    generalize bx (putL l.length) = T2 at *
    have Z1 := Lib.hid z1
    clear h hb0 hnw hall hlen z0 z1 h4 HRI hp h2
    go_enter Try.func72, Try.ntmps72
    go_wp2_with fail
    refine hri.mono ?_
    rintro e w1 ⟨rfl, b1⟩
    have B1 := Lib.hid b1
    have SB : Hid (∀ w', Below w0.heap.size w0 w' → w'.cell? ⟨w.heap.size, 0, none⟩ = some (.slice a l.length c) ∧ w'.cell? ⟨w.heap.size, 1, none⟩ = some (.int .i64 (n : Int))) := fun w' t =>
      ⟨(t.cell (World.block_lt_of_cell? w0 ⟨w.heap.size, 0, none⟩ c0)).trans c0, (t.cell (World.block_lt_of_cell? w0 ⟨w.heap.size, 1, none⟩ c1)).trans c1⟩
    clear b1 c0 c1 hri
    go_upto_region 3 with (fail)
    go_region_held3 (fun w' => w'.cell? ⟨w.heap.size, 0, none⟩ = some (.slice a l.length c) ∧ w'.cell? ⟨w.heap.size, 1, none⟩ = some (.int .i64 (n : Int))) (exact SB.out _ (by repeat (first | exact BD.out | exact BC.out | exact B1.out | apply Below.drew)))
      (first
      | (go_at_call 87; refine (hI1 _).mono ?_; rintro e wC ⟨rfl, bC⟩; have BC : Hid (Below w0.heap.size w0 wC) := below_next (by repeat (first | exact B1.out | apply Below.drew)) (Nat.le_refl _) bC; clear bC)
      | (go_at_call 87; refine (hI2 _).mono ?_; rintro e wD ⟨rfl, bD⟩; have BD : Hid (Below w0.heap.size w0 wD) := below_next (by repeat (first | exact BC.out | apply Below.drew)) (Nat.le_refl _) bD; clear bD))
    rw [Z1.out]
    obtain ⟨E, hE⟩ : ∃ E : Nat → ByteArray, (fun i => bx (encTo ⟨l, (n : Int)⟩ i)) = E := ⟨_, rfl⟩
    have hEi : ∀ i, bx (encTo ⟨l, (n : Int)⟩ i) = E i := fun i => congrFun hE i
    have HNE : Hid (∀ i (h : i < l.length), E (i + 1) = E i ++ bx (encStep l[i])) := fun i h => by
      rw [← hEi, ← hEi, HNX.out i h, bx_app]
    have HSZ : Hid (∀ i, (E i).size ≤ 800) := fun i => by rw [← hEi]; exact HLN.out i
    have HEE : Hid (E l.length = bx (encProg ⟨l, (n : Int)⟩)) := by show _ = _; rw [← hEi]; exact HEN.out
    rw [hEi]
    clear hE hEi HNX HLN HEN Z1 hI1 hI2 n1 s1 s2
    go_wp2
    go_loopw [4, 5] (fun sv iv wr => ∃ i : Nat, i ≤ l.length ∧ iv = .int .i64 (i : Int) ∧ sv = .string (E i) ∧ Hid (Below w0.heap.size w0 wr)) (fun _ iv _ => l.length - (intOf iv).toNat)
    case atStart => exact ⟨0, Nat.zero_le _, rfl, rfl, BD.out⟩
    case round =>
      clear BD BC B1
      obtain ⟨i, hi, rfl, rfl, HI⟩ := hrel
      obtain ⟨c0, c1⟩ := SB.out wr HI.out
      by_cases hlt : i < l.length
      · obtain ⟨b, o, rfl, q0, q1, q2, q3, q4, q5, -, -⟩ := (H.out.below HI.out).at hlt
        have HNI := Lib.hid (HNE.out i hlt)
        have hsz := HSZ.out i
        have hok := HAL.out i hlt
        have hmes : l.length - (intOf (.int .i64 ((i : Int) + 1))).toNat < l.length - (intOf (.int .i64 (i : Int))).toNat := by simp [intOf]; omega
        have hi1 : (0 : Int) ≤ (i : Int) := Int.natCast_nonneg _
        have hi2 : (i : Int) < (l.length : Int) := by omega
        generalize l[i] = x at *
        have hns := step_nums hok
        obtain ⟨kind, name, undo, tries, undoTries, wait⟩ := x
        simp only at q0 q1 q2 q3 q4 q5 hns
        obtain ⟨bxl, hbx⟩ : ∃ k, wr.heap.size = k := ⟨_, rfl⟩
        obtain ⟨wx, hwx⟩ : ∃ wx, wr.alloc (.cells #[.int .i64 kind, .string name, .string undo, .int .i64 tries, .int .i64 undoTries, .int .i64 wait] 53) = wx := ⟨_, rfl⟩
        have hnx : wx.heap[bxl]? = some (.cells #[.int .i64 kind, .string name, .string undo, .int .i64 tries, .int .i64 undoTries, .int .i64 wait] 53 (0, 0)) := by rw [← hwx, ← hbx]; exact heap_alloc_new _ _
        have hbl : Below w0.heap.size w0 wx := by rw [← hwx]; exact HI.out.alloc HI.out.size _
        have SX : Hid (∀ w', Below wx.heap.size wx w' → w'.cell? ⟨bxl, 0, none⟩ = some (.int .i64 kind) ∧ w'.cell? ⟨bxl, 1, none⟩ = some (.string name) ∧ w'.cell? ⟨bxl, 2, none⟩ = some (.string undo) ∧ w'.cell? ⟨bxl, 3, none⟩ = some (.int .i64 tries) ∧ w'.cell? ⟨bxl, 4, none⟩ = some (.int .i64 undoTries) ∧ w'.cell? ⟨bxl, 5, none⟩ = some (.int .i64 wait)) := fun w' t => by
          have e := (t.block _ (block_lt hnx)).trans hnx
          rw [block_cell e, block_cell e, block_cell e, block_cell e, block_cell e, block_cell e]
          exact ⟨rfl, rfl, rfl, rfl, rfl, rfl⟩
        have HBL := Lib.hid hbl
        obtain ⟨y0, y1, y2, y3, y4, y5⟩ := SX.out wx (Below.refl _ _)
        clear hnx hbl
        rcases hns with ⟨rfl, t, u, rfl, rfl, ht, hu, hn16, hu16⟩ | ⟨rfl, m, rfl, hm⟩ | ⟨rfl, hn16⟩
        · have hK := fun w => rint_bx 1 (by omega) w
          have hA := fun w => rtext_bx name (by omega) w
          have hT := fun w => rint_bx t (by omega) w
          have hC := fun w => rtext_bx undo (by omega) w
          have hD := fun w => rint_bx u (by omega) w
          have z1 : (bx (putL 1)).size ≤ 2 := by rw [bx_size]; exact putL_small (by omega)
          have z2 : (bx (textL name)).size ≤ 18 := by
            have := putL_small (n := name.size) (by omega)
            have e : name.data.toList.length = name.size := by simp
            rw [bx_size]; unfold textL; rw [List.length_append]; omega
          have z3 : (bx (putL t)).size ≤ 2 := by rw [bx_size]; exact putL_small (by omega)
          have z4 : (bx (textL undo)).size ≤ 18 := by
            have := putL_small (n := undo.size) (by omega)
            have e : undo.data.toList.length = undo.size := by simp
            rw [bx_size]; unfold textL; rw [List.length_append]; omega
          have z5 : (bx (putL u)).size ≤ 2 := by rw [bx_size]; exact putL_small (by omega)
          have hfin : (E i ++ bx (putL 1)) ++ (((bx (textL name) ++ bx (putL t)) ++ bx (textL undo)) ++ bx (putL u)) = E (i + 1) := by
            rw [HNI.out, ByteArray.append_assoc]
            simp only [bx_app]
            congr 2
          clear HNI
          have HFI := Lib.hid hfin
          have n1 : ¬ 9223372036854775807 < (E i).size + (bx (putL 1)).size := by omega
          have n2 : ¬ 9223372036854775807 < (bx (textL name)).size + (bx (putL t)).size := by omega
          have n3 : ¬ 9223372036854775807 < (bx (textL name)).size + (bx (putL t)).size + (bx (textL undo)).size := by omega
          have n4 : ¬ 9223372036854775807 < (bx (textL name)).size + (bx (putL t)).size + (bx (textL undo)).size + (bx (putL u)).size := by omega
          have n5 : ¬ 9223372036854775807 < (E i).size + (bx (putL 1)).size + ((bx (textL name)).size + (bx (putL t)).size + (bx (textL undo)).size + (bx (putL u)).size) := by omega
          generalize bx (putL 1) = TK at *
          generalize bx (textL name) = TA at *
          generalize bx (putL t) = TT at *
          generalize bx (textL undo) = TC at *
          generalize bx (putL u) = TD at *
          clear hfin hok
          go_wp2_with fail
          refine (hK _).mono ?_
          rintro e wK ⟨rfl, bK⟩
          have BK := Lib.hid bK
          clear y0 y1 y2 y3 y4 y5 q0 q1 q2 q3 q4 q5 c0 c1
          obtain ⟨y0, y1, y2, y3, y4, y5⟩ := SX.out wK bK
          clear bK y1 y2 y3 y4 y5
          go_upto_region 10 with (fail)
          clear y0
          go_region_held3 (fun w' => w'.cell? ⟨bxl, 1, none⟩ = some (.string name) ∧ w'.cell? ⟨bxl, 2, none⟩ = some (.string undo) ∧ w'.cell? ⟨bxl, 3, none⟩ = some (.int .i64 (t : Int)) ∧ w'.cell? ⟨bxl, 4, none⟩ = some (.int .i64 (u : Int))) (exact SX.out _ (by repeat (first | exact BD.out | exact BC.out | exact BT.out | exact BA.out | exact BK.out | apply Below.drew)) |>.2 |> fun h => ⟨h.1, h.2.1, h.2.2.1, h.2.2.2.1⟩)
            (first
            | (go_at_call 88; refine (hA _).mono ?_; rintro e wA ⟨rfl, bA⟩; have BA : Hid (Below wx.heap.size wx wA) := below_next (by repeat (first | exact BK.out | apply Below.drew)) (Nat.le_refl _) bA; clear bA)
            | (go_at_call 87; refine (hT _).mono ?_; rintro e wT ⟨rfl, bT⟩; have BT : Hid (Below wx.heap.size wx wT) := below_next (by repeat (first | exact BA.out | apply Below.drew)) (Nat.le_refl _) bT; clear bT)
            | (go_at_call 88; refine (hC _).mono ?_; rintro e wC ⟨rfl, bC⟩; have BC : Hid (Below wx.heap.size wx wC) := below_next (by repeat (first | exact BT.out | apply Below.drew)) (Nat.le_refl _) bC; clear bC)
            | (go_at_call 87; refine (hD _).mono ?_; rintro e wD ⟨rfl, bD⟩; have BD : Hid (Below wx.heap.size wx wD) := below_next (by repeat (first | exact BC.out | apply Below.drew)) (Nat.le_refl _) bD; clear bD))
          all_goals
            have HF2 := Lib.hid (HBL.out.trans (BD.out.mono HBL.out.size))
            go_wp2
            go_roundw
            case rel => exact ⟨i + 1, by omega, by go_num, by rw [HFI.out], HF2.out⟩
            case measure => exact hmes
        · have hK := fun w => rint_bx 2 (by omega) w
          have hA := fun w => rint_bx m (by omega) w
          have z1 : (bx (putL 2)).size ≤ 2 := by rw [bx_size]; exact putL_small (by omega)
          have z2 : (bx (putL m)).size ≤ 18 := by
            rw [bx_size]; have := putL_small (n := m) (by omega); omega
          have hfin : (E i ++ bx (putL 2)) ++ bx (putL m) = E (i + 1) := by
            rw [HNI.out, ByteArray.append_assoc]
            simp only [bx_app]
            congr 2
          clear HNI
          have HFI := Lib.hid hfin
          have n1 : ¬ 9223372036854775807 < (E i).size + (bx (putL 2)).size := by omega
          have n5 : ¬ 9223372036854775807 < (E i).size + (bx (putL 2)).size + (bx (putL m)).size := by omega
          generalize bx (putL 2) = TK at *
          generalize bx (putL m) = TA at *
          clear hfin hok
          go_wp2_with fail
          refine (hK _).mono ?_
          rintro e wK ⟨rfl, bK⟩
          have BK := Lib.hid bK
          clear y0 y1 y2 y3 y4 y5 q0 q1 q2 q3 q4 q5 c0 c1
          obtain ⟨y0, y1, y2, y3, y4, y5⟩ := SX.out wK bK
          clear bK y2 y3 y4
          go_wp2_with fail
          refine (hA _).mono ?_
          rintro e wA ⟨rfl, bA⟩
          have HF2 := Lib.hid (HBL.out.trans ((BK.out.trans (bA.mono BK.out.size)).mono HBL.out.size))
          clear bA y0 y1 y5
          go_wp2
          go_roundw
          case rel => exact ⟨i + 1, by omega, by go_num, by rw [HFI.out], HF2.out⟩
          case measure => exact hmes
        · have hK := fun w => rint_bx 3 (by omega) w
          have hA := fun w => rtext_bx name (by omega) w
          have z1 : (bx (putL 3)).size ≤ 2 := by rw [bx_size]; exact putL_small (by omega)
          have z2 : (bx (textL name)).size ≤ 18 := by
            have := putL_small (n := name.size) (by omega)
            have e : name.data.toList.length = name.size := by simp
            rw [bx_size]; unfold textL; rw [List.length_append]; omega
          have hfin : (E i ++ bx (putL 3)) ++ bx (textL name) = E (i + 1) := by
            rw [HNI.out, ByteArray.append_assoc]
            simp only [bx_app]
            congr 2
          clear HNI
          have HFI := Lib.hid hfin
          have n1 : ¬ 9223372036854775807 < (E i).size + (bx (putL 3)).size := by omega
          have n5 : ¬ 9223372036854775807 < (E i).size + (bx (putL 3)).size + (bx (textL name)).size := by omega
          generalize bx (putL 3) = TK at *
          generalize bx (textL name) = TA at *
          clear hfin hok
          go_wp2_with fail
          refine (hK _).mono ?_
          rintro e wK ⟨rfl, bK⟩
          have BK := Lib.hid bK
          clear y0 y1 y2 y3 y4 y5 q0 q1 q2 q3 q4 q5 c0 c1
          obtain ⟨y0, y1, y2, y3, y4, y5⟩ := SX.out wK bK
          clear bK y2 y3 y4
          go_wp2_with fail
          refine (hA _).mono ?_
          rintro e wA ⟨rfl, bA⟩
          have HF2 := Lib.hid (HBL.out.trans ((BK.out.trans (bA.mono BK.out.size)).mono HBL.out.size))
          clear bA y0 y1 y5
          go_wp2
          go_roundw
          case rel => exact ⟨i + 1, by omega, by go_num, by rw [HFI.out], HF2.out⟩
          case measure => exact hmes
      · obtain rfl : i = l.length := by omega
        go_wp2
        go_ret2
        exact ⟨by rw [← HEE.out]; rfl, HB.out.trans (HI.out.mono HB.out.size)⟩
  · have hS : encS p = ⟨#[]⟩ := if_neg hp
    have hE : encE p = 130 := if_neg hp
    rw [hS, hE]
    rw [Bool.not_eq_true] at hp
    rw [hp] at hri
    unfold ProgS.val' at hri ⊢
    clear h hb0 hnw HRI
    go_enter Try.func72, Try.ntmps72
    go_wp2_with fail
    refine hri.mono ?_
    rintro e w1 ⟨rfl, b1⟩
    have B1 := Lib.hid (HB.out.trans (b1.mono HB.out.size))
    clear b1
    go_wp2
    go_ret2
    exact ⟨rfl, B1.out⟩
end Go.Proofs.Ytlkfpeefjpmmfaa

namespace Go.Proofs.Ytlkfpeefjpmmfaa
open Go.RowKit
set_option linter.unusedVariables false

theorem index_has (l : List UInt8) (c : UInt8) : decide (0 ≤ Go.Lib.indexByte l c) = l.contains c := by
  induction l with
  | nil => rfl
  | cons b l ih =>
    have hge := Go.Lib.indexByte_ge l c
    rw [List.contains_cons]
    unfold Go.Lib.indexByte
    by_cases hb : b = c
    · subst hb; simp
    · have h1 : (b == c) = false := by simpa using hb
      have h2 : (c == b) = false := by simpa using fun e => hb e.symm
      rw [h1, h2, ← ih]
      by_cases hm : Go.Lib.indexByte l c = -1
      · rw [hm]; rfl
      · have : (Go.Lib.indexByte l c == -1) = false := by simpa using hm
        rw [this]
        simp only [Bool.false_or, Bool.false_eq_true, if_false]
        congr 1
        refine propext ?_
        omega

set_option maxHeartbeats 1000000 in
theorem rin13_any (f : List UInt8) (c : UInt8) (n low high : Int) (w : World) :
    Calls Try.prog 44 #[.string (bx f), .string ⟨#[c]⟩, .int .i64 n, .int .i64 low, .int .i64 high] w fun e w' => e = .returned (.bool (fieldB f c n low high)) ∧ w' = w := by
  have hc := Sh.strings_Contains_one (bx f) c w
  rw [show (bx f).data.toList = f from rfl, index_has] at hc
  have HI : Hid (fieldB f c n low high = if f.contains c then (decide (low ≤ n) && decide (n ≤ high)) else decide (n = 0)) := rfl
  generalize fieldB f c n low high = FB at *
  generalize f.contains c = b at *
  go_enter Try.func44, Try.ntmps44
  go_wp2_with fail
  refine hc.mono ?_
  rintro e w1 ⟨rfl, rfl⟩
  cases b
  · by_cases h1 : n = 0
    · go_wp2
      go_ret
      exact ⟨by rw [HI.out]; simp [h1], rfl⟩
    · go_wp2
      go_ret
      exact ⟨by rw [HI.out]; simp [h1], rfl⟩
  · by_cases h1 : low ≤ n
    · by_cases h2 : n ≤ high
      · go_wp2
        go_ret
        exact ⟨by rw [HI.out]; simp [h1, h2], rfl⟩
      · go_wp2
        go_ret
        exact ⟨by rw [HI.out]; simp [h1], rfl⟩
    · go_wp2
      go_ret
      exact ⟨by rw [HI.out]; simp; intro h; omega, rfl⟩
end Go.Proofs.Ytlkfpeefjpmmfaa

namespace Go.Proofs.Ytlkfpeefjpmmfaa
open Go.RowKit
set_option linter.unusedVariables false

set_option maxHeartbeats 4000000 in
set_option maxRecDepth 100000 in
theorem rfields_any (k : Int) (w : World) :
    Calls Try.prog 43 #[.int .i64 k] w fun e w' => e = .returned (.tuple #[.string (bx (shapeL k)), .bool (inB k 1 18)]) ∧ Below w.heap.size w w' := by
  by_cases h : 1 ≤ k ∧ k ≤ 18
  · have hi : inB k 1 18 = true := inB_iff.2 h
    rw [hi]
    have hk : k = 1 ∨ k = 2 ∨ k = 3 ∨ k = 4 ∨ k = 5 ∨ k = 6 ∨ k = 7 ∨ k = 8 ∨ k = 9 ∨ k = 10 ∨ k = 11 ∨ k = 12 ∨ k = 13 ∨ k = 14 ∨ k = 15 ∨ k = 16 ∨ k = 17 ∨ k = 18 := by omega
    rcases hk with rfl | rfl | rfl | rfl | rfl | rfl | rfl | rfl | rfl | rfl | rfl | rfl | rfl | rfl | rfl | rfl | rfl | rfl
    all_goals
      clear h hi
      go_enter Try.func43, Try.ntmps43
      go_wp2
      go_ret2
      exact ⟨rfl, by repeat (first | exact Below.refl _ _ | apply Below.drew | (refine Below.alloc ?_ (Nat.le_refl _) _))⟩
  · have hi : inB k 1 18 = false := by cases hb : inB k 1 18 with | false => rfl | true => exact absurd (inB_iff.1 hb) h
    have hs : shapeL k = [] := by
      unfold shapeL shapeN
      rw [if_neg (by omega), if_neg (by omega), if_neg (by omega), if_neg (by omega), if_neg (by omega), if_neg (by omega)]
    rw [hi, hs]
    clear hi hs
    by_cases h1 : k < 1
    · go_enter Try.func43, Try.ntmps43
      go_wp2
      go_ret2
      exact ⟨rfl, by repeat (first | exact Below.refl _ _ | apply Below.drew | (refine Below.alloc ?_ (Nat.le_refl _) _))⟩
    · go_enter Try.func43, Try.ntmps43
      go_wp2
      go_ret2
      exact ⟨rfl, by repeat (first | exact Below.refl _ _ | apply Below.drew | (refine Below.alloc ?_ (Nat.le_refl _) _))⟩
end Go.Proofs.Ytlkfpeefjpmmfaa

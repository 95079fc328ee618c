/- Layer 13: the contract of the reference's Decode. -/
import Derived.Test.YthliofijioghkaaR13c
import Derived.Test.YthliofijioghkaaR13d
namespace Go.Proofs.Ythliofijioghkaa
open Go.RowKit
set_option linter.unusedVariables false

def EvS.zero : EvS := ⟨0, 0, 0, 0, 0, 0, false, ⟨#[]⟩⟩
def EvS.arr (e : EvS) : Array Value := #[.int .i64 e.id, .int .i64 e.kind, .int .i64 e.tick, .int .i64 e.ref, .int .i64 e.step, .int .i64 e.tryN, .bool e.undo, .string e.data]
/-- An event while it is read: the reader, the event so far. -/
structure EvAt (w wr : World) (rb xb : Nat) (R : Option (List UInt8)) (e : EvS) : Prop where
  rd : RDE wr rb R
  x : wr.heap[xb]? = some (.cells e.arr 23 (0, 0))
  ord : rb < xb ∧ w.heap.size < rb
  below : Below w.heap.size w wr
  res : wr.heap[w.heap.size]? = some (.cells EvS.zero.arr 23 (0, 0))
section
variable {w wr w' : World} {rb xb : Nat} {R R' : Option (List UInt8)} {e : EvS}
theorem EvAt.call (h : EvAt w wr rb xb R e) (t : Left wr w' rb R') : EvAt w w' rb xb R' e :=
  ⟨t.1, (t.2.block xb (block_lt h.x) (by have := h.ord; simp; omega)).trans h.x, h.ord, h.below.trans (t.below h.below.size (Nat.le_of_lt h.ord.2)), (t.2.block _ (block_lt h.res) (by have := h.ord; simp; omega)).trans h.res⟩
theorem EvAt.later (h : EvAt w wr rb xb R e) (b : Below wr.heap.size wr w') : EvAt w w' rb xb R e :=
  ⟨h.rd.below b, (b.block xb (block_lt h.x)).trans h.x, h.ord, h.below.trans (b.mono h.below.size), (b.block _ (block_lt h.res)).trans h.res⟩
theorem EvAt.store (h : EvAt w wr rb xb R e) (i : Nat) (u : Value) (e' : EvS) (he : e'.arr = e.arr.setIfInBounds i u) : EvAt w (wr.setCell ⟨xb, i, none⟩ u) rb xb R e' := by
  have ho := h.ord
  have hb : ∀ k, k ≠ xb → (wr.setCell ⟨xb, i, none⟩ u).heap[k]? = wr.heap[k]? := fun k e => Below.heap_setCell _ _ _ _ (fun e2 => e (by first | exact e2 | exact e2.symm))
  exact ⟨h.rd.block (hb rb (by omega)), by rw [he]; exact block_set h.x i u, h.ord, h.below.setCell (p := ⟨xb, i, none⟩) (by simp only; omega) u, (hb _ (by omega)).trans h.res⟩
theorem EvAt.cell (h : EvAt w wr rb xb R e) (i : Nat) : wr.cell? ⟨xb, i, none⟩ = e.arr[i]? := block_cell h.x i
theorem EvAt.free (h : EvAt w wr rb xb R e) (i : Nat) : wr.frozen? ⟨xb, i, none⟩ = false := block_free h.x i
end
/-- How Decode ends. -/
def EvEnd (l : List UInt8) (e : EvS) (E : Nat) : Prop := (okE l = true ∧ e = (rdEv (some l)).1 ∧ E = 0) ∨ (okE l = false ∧ e = EvS.zero ∧ E = 60)
theorem Most.head {N : Nat} {R : Option (List UInt8)} (h : Most N R) : Most N (rdHead R).2 ∧ (rdHead R).1.data.size ≤ N := ⟨((h.int _).int _).int _, Nat.zero_le _⟩
theorem Most.fld {N : Nat} {x : EvS × Option (List UInt8)} (h : Most N x.2 ∧ x.1.data.size ≤ N) (c : UInt8) : Most N (rdFld x c).2 ∧ (rdFld x c).1.data.size ≤ N := by
  have z : ∀ l : List UInt8, (⟨l.toArray⟩ : ByteArray).size = l.length := fun l => by show l.toArray.size = _; simp
  unfold rdFld
  simp only
  split
  · exact ⟨h.1.int _, h.2⟩
  split
  · exact ⟨h.1.int _, h.2⟩
  split
  · exact ⟨h.1.int _, h.2⟩
  split
  · exact ⟨h.1.int _, h.2⟩
  · exact ⟨h.1.text.1, by rw [z]; exact h.1.text.2⟩
theorem Most.flds {N : Nat} : ∀ (f : List UInt8) {x : EvS × Option (List UInt8)} (h : Most N x.2 ∧ x.1.data.size ≤ N), Most N (rdFlds x f).2 ∧ (rdFlds x f).1.data.size ≤ N
  | [], x, h => h
  | c :: r, x, h => Most.flds r (Most.fld h c)
theorem rdFlds_next {x : EvS × Option (List UInt8)} {f : List UInt8} {i : Nat} (h : i < f.length) : rdFlds x (f.take (i + 1)) = rdFld (rdFlds x (f.take i)) f[i] := by
  unfold rdFlds
  rw [List.take_succ_eq_append_getElem h, List.foldl_append]
  rfl
theorem infoEv : (Try.prog.info? 23).map (fun i => (i.zero, i.size, i.bytes)) = some (some (.agg EvS.zero.arr), 8, 72) := by kernel_rfl

set_option maxHeartbeats 8000000 in
set_option maxRecDepth 100000 in
theorem rdecode13_any (s : ByteArray) (hs : s.size ≤ 140737488351232) (w : World) :
    Calls Try.prog 14 #[.string s] w fun x w' => ∃ e E, x = .returned (.tuple #[e.val', .int .i64 (E : Nat)]) ∧ EvEnd s.data.toList e E ∧ Below w.heap.size w w' := by
  obtain ⟨i0, hi0, hz0, hz1, hz2⟩ := info_parts infoEv
  obtain ⟨w1, hw1⟩ : ∃ w1, w.alloc (.cells #[.int .i64 0, .int .i64 0, .int .i64 0, .int .i64 0, .int .i64 0, .int .i64 0, .bool false, .string ⟨#[]⟩] 23) = w1 := ⟨_, rfl⟩
  obtain ⟨w2, hw2⟩ : ∃ w2, w1.alloc (.cells #[.string s, .bool false] 65) = w2 := ⟨_, rfl⟩
  obtain ⟨w3, hw3⟩ : ∃ w3, w2.alloc (.cells #[.int .i64 0, .int .i64 0, .int .i64 0, .int .i64 0, .int .i64 0, .int .i64 0, .bool false, .string ⟨#[]⟩] 23) = w3 := ⟨_, rfl⟩
  have hs1 : w1.heap.size = w.heap.size + 1 := by rw [← hw1]; simp
  have hs2 : w2.heap.size = w.heap.size + 2 := by rw [← hw2]; simp [hs1]
  have b1 : Below w.heap.size w w1 := by rw [← hw1]; exact (Below.refl _ _).alloc (Nat.le_refl _) _
  have b2 : Below w1.heap.size w1 w2 := by rw [← hw2]; exact (Below.refl _ _).alloc (Nat.le_refl _) _
  have b3 : Below w2.heap.size w2 w3 := by rw [← hw3]; exact (Below.refl _ _).alloc (Nat.le_refl _) _
  have hb3 : Below w.heap.size w w3 := (b1.trans (b2.mono b1.size)).trans (b3.mono (by omega))
  have hq : w3.heap[w.heap.size]? = some (.cells EvS.zero.arr 23 (0, 0)) := by
    rw [b3.block _ (by omega), b2.block _ (by omega), ← hw1]; exact heap_alloc_new _ _
  have hr : w3.heap[w.heap.size + 1]? = some (.cells #[.string s, .bool false] 65 (0, 0)) := by
    rw [b3.block _ (by omega), ← hw2, ← hs1]; exact heap_alloc_new _ _
  have hx : w3.heap[w.heap.size + 2]? = some (.cells EvS.zero.arr 23 (0, 0)) := by
    rw [← hw3, ← hs2]; exact heap_alloc_new _ _
  have hrd : RDE w3 (w.heap.size + 1) (some s.data.toList) := ⟨s, rfl, by rw [block_cell hr]; rfl, by rw [block_cell hr]; rfl, block_free hr 0, block_free hr 1, hs⟩
  have HD0 : Hid (EvAt w w3 (w.heap.size + 1) (w.heap.size + 2) (some s.data.toList) EvS.zero) := ⟨hrd, hx, ⟨by omega, by omega⟩, hb3, hq⟩
  have hw12 : Hid (w1.heap.size = w.heap.size + 1 ∧ w2.heap.size = w.heap.size + 2) := ⟨hs1, hs2⟩
  obtain ⟨n1, hn1⟩ : ∃ n, (intS 1000 (some s.data.toList)).1 = n := ⟨_, rfl⟩
  obtain ⟨R1, hR1⟩ : ∃ R, (intS 1000 (some s.data.toList)).2 = R := ⟨_, rfl⟩
  obtain ⟨n2, hn2⟩ : ∃ n, (intS 100 R1).1 = n := ⟨_, rfl⟩
  obtain ⟨R2, hR2⟩ : ∃ R, (intS 100 R1).2 = R := ⟨_, rfl⟩
  obtain ⟨n3, hn3⟩ : ∃ n, (intS 1125899906842624 R2).1 = n := ⟨_, rfl⟩
  obtain ⟨R3, hR3⟩ : ∃ R, (intS 1125899906842624 R2).2 = R := ⟨_, rfl⟩
  have HH : Hid (rdHead (some s.data.toList) = (⟨(n1 : Int), (n2 : Int), (n3 : Int), 0, 0, 0, false, ⟨#[]⟩⟩, R3)) := by
    show _ = _
    unfold rdHead
    simp only [hn1, hR1, hn2, hR2, hn3, hR3]
  clear b1 b2 b3 hb3 hq hr hx hrd
  go_enter Try.func14, Try.ntmps14
  go_wp2_with fail
  refine (rint2_any HD0.out.rd 1000 (by omega) (by omega)).mono ?_
  rintro x wa ⟨rfl, hla⟩
  rw [hR1] at hla
  rw [hn1]
  have HDa := Lib.hid (HD0.out.call hla)
  have a0 : wa.cell? ⟨w.heap.size + 2, 0, none⟩ = some (.int .i64 0) := HDa.out.cell 0
  have a1 := HDa.out.free 0
  have HDb : Hid (EvAt w (wa.setCell ⟨w.heap.size + 2, 0, none⟩ (.int .i64 (n1 : Int))) (w.heap.size + 1) (w.heap.size + 2) R1 ⟨(n1 : Int), 0, 0, 0, 0, 0, false, ⟨#[]⟩⟩) := HDa.out.store 0 _ _ rfl
  clear hla HD0 HDa
  go_wp2_with fail
  refine (rint2_any HDb.out.rd 100 (by omega) (by omega)).mono ?_
  rintro x wb ⟨rfl, hlb⟩
  rw [hR2] at hlb
  rw [hn2]
  have HDc := Lib.hid (HDb.out.call hlb)
  clear a0 a1
  have a0 : wb.cell? ⟨w.heap.size + 2, 1, none⟩ = some (.int .i64 0) := HDc.out.cell 1
  have a1 := HDc.out.free 1
  have HDd : Hid (EvAt w (wb.setCell ⟨w.heap.size + 2, 1, none⟩ (.int .i64 (n2 : Int))) (w.heap.size + 1) (w.heap.size + 2) R2 ⟨(n1 : Int), (n2 : Int), 0, 0, 0, 0, false, ⟨#[]⟩⟩) := HDc.out.store 1 _ _ rfl
  clear hlb HDb HDc
  go_wp2_with fail
  refine (rint2_any HDd.out.rd 1125899906842624 (by omega) (by omega)).mono ?_
  rintro x wc ⟨rfl, hlc⟩
  rw [hR3] at hlc
  rw [hn3]
  have HDe := Lib.hid (HDd.out.call hlc)
  clear a0 a1
  have a0 : wc.cell? ⟨w.heap.size + 2, 2, none⟩ = some (.int .i64 0) := HDe.out.cell 2
  have a1 := HDe.out.free 2
  have HDf : Hid (EvAt w (wc.setCell ⟨w.heap.size + 2, 2, none⟩ (.int .i64 (n3 : Int))) (w.heap.size + 1) (w.heap.size + 2) R3 ⟨(n1 : Int), (n2 : Int), (n3 : Int), 0, 0, 0, false, ⟨#[]⟩⟩) := HDe.out.store 2 _ _ rfl
  have a2 : (wc.setCell ⟨w.heap.size + 2, 2, none⟩ (.int .i64 (n3 : Int))).cell? ⟨w.heap.size + 2, 1, none⟩ = some (.int .i64 (n2 : Int)) := HDf.out.cell 1
  have hfl := rfields_any (n2 : Int)
  clear hlc HDd HDe
  go_wp2_with fail
  refine (hfl _).mono ?_
  rintro x w4 ⟨rfl, b4⟩
  have HDg := Lib.hid (HDf.out.later b4)
  clear b4 a0 a1 a2 hfl HDf
  have hM : Most s.size (rdHead (some s.data.toList)).2 ∧ (rdHead (some s.data.toList)).1.data.size ≤ s.size :=
    Most.head (fun r hr => by injection hr with hr; rw [← hr]; simp)
  have HOKE : Hid (okE s.data.toList = (evB (rdFlds (rdHead (some s.data.toList)) (shapeL (n2 : Int))).1 && (rdFlds (rdHead (some s.data.toList)) (shapeL (n2 : Int))).2 == some [] && encEv (rdFlds (rdHead (some s.data.toList)) (shapeL (n2 : Int))).1 == s.data.toList)
      ∧ (rdEv (some s.data.toList)).1 = (rdFlds (rdHead (some s.data.toList)) (shapeL (n2 : Int))).1) := by
    have h : rdEv (some s.data.toList) = rdFlds (rdHead (some s.data.toList)) (shapeL (n2 : Int)) := by
      unfold rdEv
      rw [HH.out]
    constructor
    · unfold okE
      rw [h]
    · rw [h]
  have hfm : (bx (shapeL (n2 : Int))).size ≤ 9223372036854775807 := by
    rcases shape_cases n2 with h | h | h | h | h | h | h <;> rw [show shapeL (n2 : Int) = _ from h, bx_size] <;> decide
  generalize shapeL (n2 : Int) = f at *
  obtain ⟨sF, hsF, hF1, hfs⟩ : ∃ sF : ByteArray, bx f = sF ∧ (∀ i (h : i < f.length) (h2 : i < sF.size), sF[i] = f[i]) ∧ sF.size = f.length := ⟨bx f, rfl, fun i h h2 => bx_at f i h h2, bx_size f⟩
  rw [hsF] at hfm ⊢
  have HF1 := Lib.hid hF1
  have hX0 : (⟨(n1 : Int), (n2 : Int), (n3 : Int), 0, 0, 0, false, ⟨#[]⟩⟩ : EvS) = (rdFlds (rdHead (some s.data.toList)) (f.take 0)).1 := by rw [HH.out]; rfl
  have hX1 : R3 = (rdFlds (rdHead (some s.data.toList)) (f.take 0)).2 := by rw [HH.out]; rfl
  rw [hX0, hX1] at HDg
  have HNX : Hid (∀ i (h : i < f.length), rdFlds (rdHead (some s.data.toList)) (f.take (i + 1)) = rdFld (rdFlds (rdHead (some s.data.toList)) (f.take i)) f[i]) := fun i h => rdFlds_next h
  have HMX : Hid (∀ i, (rdFlds (rdHead (some s.data.toList)) (f.take i)).1.data.size ≤ s.size) := fun i => (Most.flds _ hM).2
  have HFE : Hid (rdFlds (rdHead (some s.data.toList)) (f.take f.length) = rdFlds (rdHead (some s.data.toList)) f) := by show _ = _; rw [List.take_length]
  obtain ⟨X, hX⟩ : ∃ X : Nat → EvS × Option (List UInt8), (fun i => rdFlds (rdHead (some s.data.toList)) (f.take i)) = X := ⟨_, rfl⟩
  have hXi : ∀ i, rdFlds (rdHead (some s.data.toList)) (f.take i) = X i := fun i => congrFun hX i
  rw [← HFE.out] at HOKE
  simp only [hXi] at HDg HNX HMX HOKE
  clear hX hXi hX0 hX1 hM HH HFE hsF hF1
  go_wp2
  generalize w.heap.size + 2 = xb at *
  generalize w.heap.size + 1 = rb at *
  go_loopw [8] (fun iv wr => ∃ i : Nat, i ≤ f.length ∧ iv = .int .i64 (i : Int) ∧ Hid (EvAt w wr rb xb (X i).2 (X i).1)) (fun iv _ => f.length - (intOf iv).toNat)
  case atStart => exact ⟨0, Nat.zero_le _, rfl, HDg.out⟩
  case round =>
    clear HDg
    obtain ⟨i, hi, rfl, HI⟩ := hrel
    by_cases hlt : i < f.length
    · have hlt2 : i < sF.size := by omega
      have hat := HF1.out i hlt hlt2
      have hne := HNX.out i hlt
      have hmes : f.length - (intOf (.int .i64 ((i : Int) + 1))).toNat < f.length - (intOf (.int .i64 (i : Int))).toNat := by simp [intOf]; omega
      obtain ⟨e, he⟩ : ∃ e, (X i).1 = e := ⟨_, rfl⟩
      obtain ⟨R, hR⟩ : ∃ R, (X i).2 = R := ⟨_, rfl⟩
      have hxi : X i = (e, R) := by rw [← he, ← hR]
      rw [he, hR] at HI
      rw [hxi] at hne
      clear he hR hxi
      obtain ⟨x0, x1, x2, x3, x4, x5, x6, x7⟩ := e
      generalize f[i] = c at *
      by_cases q114 : c = 114
      · subst q114
        have q : ((sF[i].toNat : Nat) : Int) = 114 := by rw [hat]; rfl
        obtain ⟨k, hk⟩ : ∃ k, (intS 1000 R).1 = k := ⟨_, rfl⟩
        obtain ⟨Q, hQ⟩ : ∃ Q, (intS 1000 R).2 = Q := ⟨_, rfl⟩
        have HXN : Hid (X (i + 1) = (⟨x0, x1, x2, (k : Int), x4, x5, x6, x7⟩, Q)) := by show _ = _; rw [hne]; simp [rdFld, hk, hQ]
        clear hne hat
        go_wp2_with fail
        refine (rint2_any HI.out.rd 1000 (by omega) (by omega)).mono ?_
        rintro x wA ⟨rfl, hA⟩
        rw [hk]
        rw [hQ] at hA
        have HDx := Lib.hid (HI.out.call hA)
        clear hA HI
        have a0 : wA.cell? ⟨xb, 3, none⟩ = some (.int .i64 x3) := HDx.out.cell 3
        have a1 := HDx.out.free 3
        have HDy : Hid (EvAt w (wA.setCell ⟨xb, 3, none⟩ (.int .i64 (k : Int))) rb xb Q ⟨x0, x1, x2, (k : Int), x4, x5, x6, x7⟩) := HDx.out.store 3 _ _ rfl
        clear HDx
        go_wp2
        go_roundw
        case rel => exact ⟨i + 1, by omega, by go_num, by rw [HXN.out]; exact HDy.out⟩
        case measure => exact hmes
      have q214 : ¬ ((sF[i].toNat : Nat) : Int) = 114 := by rw [hat]; intro h; exact q114 (UInt8.toNat_inj.1 (by show c.toNat = 114; omega))
      by_cases q115 : c = 115
      · subst q115
        have q : ((sF[i].toNat : Nat) : Int) = 115 := by rw [hat]; rfl
        obtain ⟨k, hk⟩ : ∃ k, (intS 100 R).1 = k := ⟨_, rfl⟩
        obtain ⟨Q, hQ⟩ : ∃ Q, (intS 100 R).2 = Q := ⟨_, rfl⟩
        have HXN : Hid (X (i + 1) = (⟨x0, x1, x2, x3, (k : Int), x5, x6, x7⟩, Q)) := by show _ = _; rw [hne]; simp [rdFld, hk, hQ]
        clear hne hat
        go_wp2_with fail
        refine (rint2_any HI.out.rd 100 (by omega) (by omega)).mono ?_
        rintro x wA ⟨rfl, hA⟩
        rw [hk]
        rw [hQ] at hA
        have HDx := Lib.hid (HI.out.call hA)
        clear hA HI
        have a0 : wA.cell? ⟨xb, 4, none⟩ = some (.int .i64 x4) := HDx.out.cell 4
        have a1 := HDx.out.free 4
        have HDy : Hid (EvAt w (wA.setCell ⟨xb, 4, none⟩ (.int .i64 (k : Int))) rb xb Q ⟨x0, x1, x2, x3, (k : Int), x5, x6, x7⟩) := HDx.out.store 4 _ _ rfl
        clear HDx
        go_wp2
        go_roundw
        case rel => exact ⟨i + 1, by omega, by go_num, by rw [HXN.out]; exact HDy.out⟩
        case measure => exact hmes
      have q215 : ¬ ((sF[i].toNat : Nat) : Int) = 115 := by rw [hat]; intro h; exact q115 (UInt8.toNat_inj.1 (by show c.toNat = 115; omega))
      by_cases q116 : c = 116
      · subst q116
        have q : ((sF[i].toNat : Nat) : Int) = 116 := by rw [hat]; rfl
        obtain ⟨k, hk⟩ : ∃ k, (intS 100 R).1 = k := ⟨_, rfl⟩
        obtain ⟨Q, hQ⟩ : ∃ Q, (intS 100 R).2 = Q := ⟨_, rfl⟩
        have HXN : Hid (X (i + 1) = (⟨x0, x1, x2, x3, x4, (k : Int), x6, x7⟩, Q)) := by show _ = _; rw [hne]; simp [rdFld, hk, hQ]
        clear hne hat
        go_wp2_with fail
        refine (rint2_any HI.out.rd 100 (by omega) (by omega)).mono ?_
        rintro x wA ⟨rfl, hA⟩
        rw [hk]
        rw [hQ] at hA
        have HDx := Lib.hid (HI.out.call hA)
        clear hA HI
        have a0 : wA.cell? ⟨xb, 5, none⟩ = some (.int .i64 x5) := HDx.out.cell 5
        have a1 := HDx.out.free 5
        have HDy : Hid (EvAt w (wA.setCell ⟨xb, 5, none⟩ (.int .i64 (k : Int))) rb xb Q ⟨x0, x1, x2, x3, x4, (k : Int), x6, x7⟩) := HDx.out.store 5 _ _ rfl
        clear HDx
        go_wp2
        go_roundw
        case rel => exact ⟨i + 1, by omega, by go_num, by rw [HXN.out]; exact HDy.out⟩
        case measure => exact hmes
      have q216 : ¬ ((sF[i].toNat : Nat) : Int) = 116 := by rw [hat]; intro h; exact q116 (UInt8.toNat_inj.1 (by show c.toNat = 116; omega))
      by_cases q117 : c = 117
      · subst q117
        have q : ((sF[i].toNat : Nat) : Int) = 117 := by rw [hat]; rfl
        obtain ⟨k, hk⟩ : ∃ k, (intS 1 R).1 = k := ⟨_, rfl⟩
        obtain ⟨Q, hQ⟩ : ∃ Q, (intS 1 R).2 = Q := ⟨_, rfl⟩
        have HXN : Hid (X (i + 1) = (⟨x0, x1, x2, x3, x4, x5, decide (k = 1), x7⟩, Q)) := by show _ = _; rw [hne]; simp [rdFld, hk, hQ]
        clear hne hat
        go_wp2_with fail
        refine (rint2_any HI.out.rd 1 (by omega) (by omega)).mono ?_
        rintro x wA ⟨rfl, hA⟩
        rw [hk]
        rw [hQ] at hA
        have HDx := Lib.hid (HI.out.call hA)
        clear hA HI
        have a0 : wA.cell? ⟨xb, 6, none⟩ = some (.bool x6) := HDx.out.cell 6
        have a1 := HDx.out.free 6
        have HDy : Hid (EvAt w (wA.setCell ⟨xb, 6, none⟩ (.bool (decide (k = 1)))) rb xb Q ⟨x0, x1, x2, x3, x4, x5, decide (k = 1), x7⟩) := HDx.out.store 6 _ _ rfl
        clear HDx
        have hk1 : ((k : Int) == 1) = decide (k = 1) := by by_cases h : k = 1 <;> simp [h] <;> omega
        generalize decide (k = 1) = kb at *
        go_wp2
        go_roundw
        case rel => exact ⟨i + 1, by omega, by go_num, by rw [HXN.out]; exact HDy.out⟩
        case measure => exact hmes
      have q217 : ¬ ((sF[i].toNat : Nat) : Int) = 117 := by rw [hat]; intro h; exact q117 (UInt8.toNat_inj.1 (by show c.toNat = 117; omega))
      obtain ⟨k, hk⟩ : ∃ k, (⟨(textS R).1.toArray⟩ : ByteArray) = k := ⟨_, rfl⟩
      obtain ⟨Q, hQ⟩ : ∃ Q, (textS R).2 = Q := ⟨_, rfl⟩
      have HXN : Hid (X (i + 1) = (⟨x0, x1, x2, x3, x4, x5, x6, k⟩, Q)) := by show _ = _; rw [hne]; simp [rdFld, hk, hQ, q114, q115, q116, q117]
      have htk : tv (textS R).1 = .string k := congrArg Value.string hk
      clear hne hat
      go_wp2_with fail
      refine (rtext2_any HI.out.rd).mono ?_
      rintro x wA ⟨rfl, hA⟩
      rw [htk]
      rw [hQ] at hA
      have HDx := Lib.hid (HI.out.call hA)
      clear hA HI
      have a0 : wA.cell? ⟨xb, 7, none⟩ = some (.string x7) := HDx.out.cell 7
      have a1 := HDx.out.free 7
      have HDy : Hid (EvAt w (wA.setCell ⟨xb, 7, none⟩ (.string k)) rb xb Q ⟨x0, x1, x2, x3, x4, x5, x6, k⟩) := HDx.out.store 7 _ _ rfl
      clear HDx
      go_wp2
      go_roundw
      case rel => exact ⟨i + 1, by omega, by go_num, by rw [HXN.out]; exact HDy.out⟩
      case measure => exact hmes
    · obtain rfl : i = f.length := by omega
      have hds := HMX.out f.length
      have HPR : Hid ((rdEv (some s.data.toList)).1 = (X f.length).1) := HOKE.out.2
      have HOK : Hid (okE s.data.toList = (evB (X f.length).1 && (X f.length).2 == some [] && encEv (X f.length).1 == s.data.toList)) := HOKE.out.1
      clear HOKE HMX HNX HF1
      generalize (X f.length).1 = e at *
      generalize (X f.length).2 = R at *
      have henc := rencode13_any e (by omega) wr
      by_cases hp : evB e = true
      · have hE : encEE e = 0 := if_pos hp
        have hS : encES e = bx (encEv e) := if_pos hp
        rw [hE, hS] at henc
        rw [hp] at HOK
        clear hE hS hp
        obtain ⟨BK, hBK⟩ : ∃ BK, bx (encEv e) = BK := ⟨_, rfl⟩
        have HBK : Hid (∀ s : ByteArray, (encEv e == s.data.toList) = (BK.toList == s.toList)) := fun s => by
          rw [← hBK, bx_list, Lib.toList_data]
        rw [hBK] at henc
        rw [HBK.out] at HOK
        clear hBK HBK
        obtain ⟨x0, x1, x2, x3, x4, x5, x6, x7⟩ := e
        unfold EvS.val' at henc
        simp only at henc
        have HEN := Lib.hid henc
        clear henc
        have p0 : wr.cell? ⟨xb, 0, none⟩ = some (.int .i64 x0) := HI.out.cell 0
        have p1 : wr.cell? ⟨xb, 1, none⟩ = some (.int .i64 x1) := HI.out.cell 1
        have p2 : wr.cell? ⟨xb, 2, none⟩ = some (.int .i64 x2) := HI.out.cell 2
        have p3 : wr.cell? ⟨xb, 3, none⟩ = some (.int .i64 x3) := HI.out.cell 3
        have p4 : wr.cell? ⟨xb, 4, none⟩ = some (.int .i64 x4) := HI.out.cell 4
        have p5 : wr.cell? ⟨xb, 5, none⟩ = some (.int .i64 x5) := HI.out.cell 5
        have p6 : wr.cell? ⟨xb, 6, none⟩ = some (.bool x6) := HI.out.cell 6
        have p7 : wr.cell? ⟨xb, 7, none⟩ = some (.string x7) := HI.out.cell 7
        go_wp2_with fail
        refine HEN.out.mono ?_
        rintro x w5 ⟨rfl, b5⟩
        have H5 := Lib.hid (HI.out.later b5)
        clear b5 p0 p1 p2 p3 p4 p5 p6 p7 HEN HI
        go_wp2_with fail
        refine (rend_any H5.out.rd).mono ?_
        rintro x w6 ⟨rfl, rfl⟩
        have p0 : w5.cell? ⟨xb, 0, none⟩ = some (.int .i64 x0) := H5.out.cell 0
        have p1 : w5.cell? ⟨xb, 1, none⟩ = some (.int .i64 x1) := H5.out.cell 1
        have p2 : w5.cell? ⟨xb, 2, none⟩ = some (.int .i64 x2) := H5.out.cell 2
        have p3 : w5.cell? ⟨xb, 3, none⟩ = some (.int .i64 x3) := H5.out.cell 3
        have p4 : w5.cell? ⟨xb, 4, none⟩ = some (.int .i64 x4) := H5.out.cell 4
        have p5 : w5.cell? ⟨xb, 5, none⟩ = some (.int .i64 x5) := H5.out.cell 5
        have p6 : w5.cell? ⟨xb, 6, none⟩ = some (.bool x6) := H5.out.cell 6
        have p7 : w5.cell? ⟨xb, 7, none⟩ = some (.string x7) := H5.out.cell 7
        have HLB : Hid (∀ u0 u1 u2 u3 u4 u5 u6 u7 : Value, Below w.heap.size w ((((((((w5.setCell ⟨w.heap.size, 0, none⟩ u0).setCell ⟨w.heap.size, 1, none⟩ u1).setCell ⟨w.heap.size, 2, none⟩ u2).setCell ⟨w.heap.size, 3, none⟩ u3).setCell ⟨w.heap.size, 4, none⟩ u4).setCell ⟨w.heap.size, 5, none⟩ u5).setCell ⟨w.heap.size, 6, none⟩ u6).setCell ⟨w.heap.size, 7, none⟩ u7)) := fun u0 u1 u2 u3 u4 u5 u6 u7 =>
          (((((((H5.out.below.setCell (p := ⟨w.heap.size, 0, none⟩) (Nat.le_refl _) u0).setCell (p := ⟨w.heap.size, 1, none⟩) (Nat.le_refl _) u1).setCell (p := ⟨w.heap.size, 2, none⟩) (Nat.le_refl _) u2).setCell (p := ⟨w.heap.size, 3, none⟩) (Nat.le_refl _) u3).setCell (p := ⟨w.heap.size, 4, none⟩) (Nat.le_refl _) u4).setCell (p := ⟨w.heap.size, 5, none⟩) (Nat.le_refl _) u5).setCell (p := ⟨w.heap.size, 6, none⟩) (Nat.le_refl _) u6).setCell (p := ⟨w.heap.size, 7, none⟩) (Nat.le_refl _) u7
        have q0 : w5.cell? ⟨w.heap.size, 0, none⟩ = some (.int .i64 0) := by rw [block_cell H5.out.res]; rfl
        have f0 := block_free H5.out.res 0
        have q1 : w5.cell? ⟨w.heap.size, 1, none⟩ = some (.int .i64 0) := by rw [block_cell H5.out.res]; rfl
        have f1 := block_free H5.out.res 1
        have q2 : w5.cell? ⟨w.heap.size, 2, none⟩ = some (.int .i64 0) := by rw [block_cell H5.out.res]; rfl
        have f2 := block_free H5.out.res 2
        have q3 : w5.cell? ⟨w.heap.size, 3, none⟩ = some (.int .i64 0) := by rw [block_cell H5.out.res]; rfl
        have f3 := block_free H5.out.res 3
        have q4 : w5.cell? ⟨w.heap.size, 4, none⟩ = some (.int .i64 0) := by rw [block_cell H5.out.res]; rfl
        have f4 := block_free H5.out.res 4
        have q5 : w5.cell? ⟨w.heap.size, 5, none⟩ = some (.int .i64 0) := by rw [block_cell H5.out.res]; rfl
        have f5 := block_free H5.out.res 5
        have q6 : w5.cell? ⟨w.heap.size, 6, none⟩ = some (.bool false) := by rw [block_cell H5.out.res]; rfl
        have f6 := block_free H5.out.res 6
        have q7 : w5.cell? ⟨w.heap.size, 7, none⟩ = some (.string ⟨#[]⟩) := by rw [block_cell H5.out.res]; rfl
        have f7 := block_free H5.out.res 7
        have hendS : endS R = (R == some []) := rfl
        by_cases he : endS R = true
        · rw [he]
          by_cases hb : (BK.toList == s.toList) = true
          · have HB : Hid (okE s.data.toList = true) := by
              show _ = _
              rw [HOK.out, ← hendS, he, hb]
              rfl
            clear hendS HOK he
            go_wp2
            (try simp only [Exit.inBlock, Exit.then])
            refine bodyPost_ret (v := .tuple #[EvS.val' ⟨x0, x1, x2, x3, x4, x5, x6, x7⟩, .int .i64 0]) ?_ rfl ⟨⟨x0, x1, x2, x3, x4, x5, x6, x7⟩, 0, rfl, .inl ⟨HB.out, HPR.out.symm, rfl⟩, HLB.out _ _ _ _ _ _ _ _⟩
            rw [results_cell_tmp rfl]
            unfold EvS.val'
            go_simp
          · rw [Bool.not_eq_true] at hb
            have HB : Hid (okE s.data.toList = false) := by
              show _ = _
              rw [HOK.out, ← hendS, he, hb]
              rfl
            clear hendS HOK he
            go_wp2
            (try simp only [Exit.inBlock, Exit.then])
            refine bodyPost_ret (v := .tuple #[EvS.val' EvS.zero, .int .i64 60]) ?_ rfl ⟨EvS.zero, 60, rfl, .inr ⟨HB.out, rfl, rfl⟩, HLB.out _ _ _ _ _ _ _ _⟩
            rw [results_cell_tmp rfl]
            unfold EvS.val'
            (try unfold EvS.zero)
            go_simp
        · rw [Bool.not_eq_true] at he
          have HB : Hid (okE s.data.toList = false) := by
            show _ = _
            rw [HOK.out, ← hendS, he]
            rfl
          rw [he]
          clear hendS HOK he
          go_wp2
          (try simp only [Exit.inBlock, Exit.then])
          refine bodyPost_ret (v := .tuple #[EvS.val' EvS.zero, .int .i64 60]) ?_ rfl ⟨EvS.zero, 60, rfl, .inr ⟨HB.out, rfl, rfl⟩, HLB.out _ _ _ _ _ _ _ _⟩
          rw [results_cell_tmp rfl]
          unfold EvS.val'
          (try unfold EvS.zero)
          go_simp
      · have hE : encEE e = 120 := if_neg hp
        rw [Bool.not_eq_true] at hp
        have HB : Hid (okE s.data.toList = false) := by
          show _ = _
          rw [HOK.out, hp]
          rfl
        rw [hE] at henc
        clear hE hp HOK
        generalize encES e = BK at *
        obtain ⟨x0, x1, x2, x3, x4, x5, x6, x7⟩ := e
        unfold EvS.val' at henc
        simp only at henc
        have HEN := Lib.hid henc
        clear henc
        have p0 : wr.cell? ⟨xb, 0, none⟩ = some (.int .i64 x0) := HI.out.cell 0
        have p1 : wr.cell? ⟨xb, 1, none⟩ = some (.int .i64 x1) := HI.out.cell 1
        have p2 : wr.cell? ⟨xb, 2, none⟩ = some (.int .i64 x2) := HI.out.cell 2
        have p3 : wr.cell? ⟨xb, 3, none⟩ = some (.int .i64 x3) := HI.out.cell 3
        have p4 : wr.cell? ⟨xb, 4, none⟩ = some (.int .i64 x4) := HI.out.cell 4
        have p5 : wr.cell? ⟨xb, 5, none⟩ = some (.int .i64 x5) := HI.out.cell 5
        have p6 : wr.cell? ⟨xb, 6, none⟩ = some (.bool x6) := HI.out.cell 6
        have p7 : wr.cell? ⟨xb, 7, none⟩ = some (.string x7) := HI.out.cell 7
        go_wp2_with fail
        refine HEN.out.mono ?_
        rintro x w5 ⟨rfl, b5⟩
        have H5 := Lib.hid (HI.out.later b5)
        clear b5 p0 p1 p2 p3 p4 p5 p6 p7 HEN HI
        have HLB : Hid (∀ u0 u1 u2 u3 u4 u5 u6 u7 : Value, Below w.heap.size w ((((((((w5.setCell ⟨w.heap.size, 0, none⟩ u0).setCell ⟨w.heap.size, 1, none⟩ u1).setCell ⟨w.heap.size, 2, none⟩ u2).setCell ⟨w.heap.size, 3, none⟩ u3).setCell ⟨w.heap.size, 4, none⟩ u4).setCell ⟨w.heap.size, 5, none⟩ u5).setCell ⟨w.heap.size, 6, none⟩ u6).setCell ⟨w.heap.size, 7, none⟩ u7)) := fun u0 u1 u2 u3 u4 u5 u6 u7 =>
          (((((((H5.out.below.setCell (p := ⟨w.heap.size, 0, none⟩) (Nat.le_refl _) u0).setCell (p := ⟨w.heap.size, 1, none⟩) (Nat.le_refl _) u1).setCell (p := ⟨w.heap.size, 2, none⟩) (Nat.le_refl _) u2).setCell (p := ⟨w.heap.size, 3, none⟩) (Nat.le_refl _) u3).setCell (p := ⟨w.heap.size, 4, none⟩) (Nat.le_refl _) u4).setCell (p := ⟨w.heap.size, 5, none⟩) (Nat.le_refl _) u5).setCell (p := ⟨w.heap.size, 6, none⟩) (Nat.le_refl _) u6).setCell (p := ⟨w.heap.size, 7, none⟩) (Nat.le_refl _) u7
        have q0 : w5.cell? ⟨w.heap.size, 0, none⟩ = some (.int .i64 0) := by rw [block_cell H5.out.res]; rfl
        have f0 := block_free H5.out.res 0
        have q1 : w5.cell? ⟨w.heap.size, 1, none⟩ = some (.int .i64 0) := by rw [block_cell H5.out.res]; rfl
        have f1 := block_free H5.out.res 1
        have q2 : w5.cell? ⟨w.heap.size, 2, none⟩ = some (.int .i64 0) := by rw [block_cell H5.out.res]; rfl
        have f2 := block_free H5.out.res 2
        have q3 : w5.cell? ⟨w.heap.size, 3, none⟩ = some (.int .i64 0) := by rw [block_cell H5.out.res]; rfl
        have f3 := block_free H5.out.res 3
        have q4 : w5.cell? ⟨w.heap.size, 4, none⟩ = some (.int .i64 0) := by rw [block_cell H5.out.res]; rfl
        have f4 := block_free H5.out.res 4
        have q5 : w5.cell? ⟨w.heap.size, 5, none⟩ = some (.int .i64 0) := by rw [block_cell H5.out.res]; rfl
        have f5 := block_free H5.out.res 5
        have q6 : w5.cell? ⟨w.heap.size, 6, none⟩ = some (.bool false) := by rw [block_cell H5.out.res]; rfl
        have f6 := block_free H5.out.res 6
        have q7 : w5.cell? ⟨w.heap.size, 7, none⟩ = some (.string ⟨#[]⟩) := by rw [block_cell H5.out.res]; rfl
        have f7 := block_free H5.out.res 7
        go_wp2
        (try simp only [Exit.inBlock, Exit.then])
        refine bodyPost_ret (v := .tuple #[EvS.val' EvS.zero, .int .i64 60]) ?_ rfl ⟨EvS.zero, 60, rfl, .inr ⟨HB.out, rfl, rfl⟩, HLB.out _ _ _ _ _ _ _ _⟩
        rw [results_cell_tmp rfl]
        unfold EvS.val'
        (try unfold EvS.zero)
        go_simp
end Go.Proofs.Ythliofijioghkaa

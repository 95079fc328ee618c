/- Layer 13's laws, whatever the program: what its calls must do; awake. -/
import Derived.Test.YthliofijioghkaaR13g
import Derived.Test.YthliofijioghkaaR13h
import Derived.Test.YthliofijioghkaaI22
namespace Go.Proofs.Ythliofijioghkaa
open Go.RowKit
set_option linter.unusedVariables false

structure EventK : Prop where
  check : ∀ (e : EvS) (w : World), e.data.size ≤ 140737488351232 → Calls Try.prog 12 #[e.val'] w fun x w' => x = .returned (.int .i64 (encEE e : Nat)) ∧ Below w.heap.size w w'
  encode : ∀ (e : EvS) (w : World), e.data.size ≤ 140737488351232 → Calls Try.prog 10 #[e.val'] w fun x w' => x = .returned (.tuple #[.string (encES e), .int .i64 (encEE e : Nat)]) ∧ Below w.heap.size w w'
  decode : ∀ (s : ByteArray) (w : World), s.size ≤ 140737488351232 → Calls Try.prog 13 #[.string s] w fun x w' => ∃ e E, x = .returned (.tuple #[e.val', .int .i64 (E : Nat)]) ∧ EvEnd s.data.toList e E ∧ Below w.heap.size w w'
  pack : ∀ {w a c} (l : List EvS), ReadE w (.slice a l.length c) l → (∀ x ∈ l, x.data.size ≤ 140737488351232) → Calls Try.prog 18 #[.slice a l.length c] w fun x w' => x = .returned (.tuple #[.string (packS l), .int .i64 (packE l : Nat)]) ∧ Below w.heap.size w w'
  unpack : ∀ (s : ByteArray) (w : World), s.size ≤ 140737488351232 → Calls Try.prog 15 #[.string s] w fun x w' => ∃ a c l E, x = .returned (.tuple #[.slice a (List.length l) c, .int .i64 (E : Nat)]) ∧ ReadE w' (.slice a l.length c) l ∧ HistEnd s.data.toList l E ∧ Below w.heap.size w w'

theorem dec_encE {e x : EvS} {E : Nat} (h : evB e = true) (k : EvEnd (encES e).data.toList x E) : x = e ∧ E = 0 := by
  have hs : (encES e).data.toList = encEv e := by unfold encES; rw [if_pos h]; simp [bx]
  have hr := rd_ev h []
  rw [List.append_nil] at hr
  unfold EvEnd at k
  rw [hs, okE_ev h, hr] at k
  rcases k with ⟨_, h1, h2⟩ | ⟨h, _⟩
  · exact ⟨h1, h2⟩
  · cases h
theorem ev_one {l : List UInt8} {a b : EvS} {E F : Nat} (h : EvEnd l a E) (k : EvEnd l b F) : b = a ∧ F = E := by
  rcases h with ⟨a, b, c⟩ | ⟨a, b, c⟩ <;> rcases k with ⟨d, e, f⟩ | ⟨d, e, f⟩
  · exact ⟨e.trans b.symm, f.trans c.symm⟩
  · rw [a] at d; cases d
  · rw [a] at d; cases d
  · exact ⟨e.trans b.symm, f.trans c.symm⟩
theorem hist_one {l : List UInt8} {a b : List EvS} {E F : Nat} (h : HistEnd l a E) (k : HistEnd l b F) : b = a ∧ F = E := by
  rcases h with ⟨a, b, c⟩ | ⟨a, b, c⟩ <;> rcases k with ⟨d, e, f⟩ | ⟨d, e, f⟩
  · exact ⟨e.trans b.symm, f.trans c.symm⟩
  · rw [a] at d; cases d
  · rw [a] at d; cases d
  · exact ⟨e.trans b.symm, f.trans c.symm⟩
theorem ba_bx (s : ByteArray) : bx s.data.toList = s := by unfold bx; cases s; simp
/-- What was read is an event, and these are its bytes. -/
theorem ev_is {s : ByteArray} {e : EvS} {E : Nat} (h : EvEnd s.data.toList e E) : (E = 0 ∧ evB e = true ∧ encES e = s ∧ encEE e = 0) ∨ (E = 60 ∧ e = EvS.zero) := by
  rcases h with ⟨a, b, c⟩ | ⟨_, b, c⟩
  · have := okE_is a
    rw [← b] at this
    refine .inl ⟨c, this.1, ?_, if_pos this.1⟩
    unfold encES
    rw [if_pos this.1, this.2, ba_bx]
  · exact .inr ⟨c, b⟩
theorem hist_data {l : List EvS} (h : histB l = true) : ∀ x ∈ l, x.data.size ≤ 1000 := fun x hx => by
  unfold histB at h
  rw [Bool.and_eq_true] at h
  exact dataB_size ((evB_iff x).1 (List.all_eq_true.1 h.2 x hx)).data
/-- What was read is a history, and these are its bytes. -/
theorem hist_is {s : ByteArray} {l : List EvS} {E : Nat} (h : HistEnd s.data.toList l E) : (E = 0 ∧ histB l = true ∧ packS l = s ∧ packE l = 0) ∨ (E = 60 ∧ l = []) := by
  rcases h with ⟨a, b, c⟩ | ⟨_, b, c⟩
  · have := okH_is a
    rw [← b] at this
    refine .inl ⟨c, this.1, ?_, ?_⟩
    · unfold packS
      rw [if_pos this.1, this.2, ba_bx]
    · have h2 := this.1
      unfold histB at h2
      rw [Bool.and_eq_true, decide_eq_true_eq] at h2
      unfold packE
      rw [if_neg (by omega), if_pos h2.2]
  · exact .inr ⟨c, b⟩
theorem hist_pack {l m : List EvS} {E : Nat} (h : packE l = 0) (k : HistEnd (packS l).data.toList m E) : m = l ∧ E = 0 := by
  have hb : histB l = true := by
    unfold packE at h
    split at h
    · cases h
    · split at h
      · next h1 h2 => unfold histB; rw [h2]; simp; omega
      · cases h
  have hs : (packS l).data.toList = encHist l := by unfold packS; rw [if_pos hb]; simp [bx]
  unfold HistEnd at k
  rw [hs, okH_hist hb, rd_hist hb] at k
  rcases k with ⟨_, h1, h2⟩ | ⟨h, _⟩
  · exact ⟨h1, h2⟩
  · cases h

def eDone : EvS := ⟨9, 7, 300, 6, 0, 1, false, ⟨#[]⟩⟩
theorem eDone_ok : evB eDone = true := by decide
theorem eDone_enc : encES eDone = ⟨#[9, 7, 172, 2, 6, 1]⟩ := by
  unfold encES
  rw [if_pos eDone_ok]
  have h9 : putL 9 = [9] := putL_lt (by omega)
  have h7 : putL 7 = [7] := putL_lt (by omega)
  have h6 : putL 6 = [6] := putL_lt (by omega)
  have h1 : putL 1 = [1] := putL_lt (by omega)
  have h3 : putL 300 = [172, 2] := by rw [putL_ge (by omega)]; show _ :: putL 2 = _; rw [putL_lt (by omega)]; rfl
  have e : encEv eDone = [9, 7, 172, 2, 6, 1] := by
    unfold encEv headL fldsL
    show (putL 9 ++ putL 7 ++ putL 300) ++ (putL 6 ++ (putL 1 ++ [])) = _
    rw [h9, h7, h3, h6, h1]
    rfl
  rw [e]
  rfl
theorem eDone_zero : encEE eDone = 0 := if_pos eDone_ok
theorem eZero_no : encEE EvS.zero = 120 := if_neg (by decide)
theorem pack_none : packS [] = ⟨#[0]⟩ ∧ packE [] = 0 := by
  have h0 : putL 0 = [0] := putL_lt (by omega)
  refine ⟨?_, rfl⟩
  unfold packS
  rw [if_pos (by decide)]
  unfold encHist encEvs
  show bx (putL 0 ++ []) = _
  rw [h0]
  rfl
theorem ev_eql (x y : EvS) (w : World) : (binOp BinOp.eql 23 x.val' y.val').run Try.prog w = .ok (.bool (decide (x = y))) w := by
  have h := ev_equal x y w
  unfold EvS.val' at h ⊢
  simp only [binOp]
  simp only [Sem.run_bind, h]
  rfl

set_option maxHeartbeats 2000000 in
set_option maxRecDepth 100000 in
theorem awake13_any (K : EventK) (w : World) :
    Calls Try.prog 9 #[] w fun e w' => e = .returned (.bool true) ∧ Below w.heap.size w w' := by
  have hen := fun w => K.encode eDone w (by decide)
  have hdc := fun w => K.decode (encES eDone) w (by rw [eDone_enc]; decide)
  have hpk := fun w => K.pack (w := w) (a := none) (c := 0) [] (ReadE.nil w) (fun x hx => by cases hx)
  have hck := fun w => K.check EvS.zero w (by decide)
  rw [pack_none.1, pack_none.2] at hpk
  rw [eZero_no] at hck
  rw [eDone_zero, eDone_enc] at hen
  have HDE : Hid (∀ x E, EvEnd (encES eDone).data.toList x E → x = eDone ∧ E = 0) := Lib.hid fun x E h => dec_encE eDone_ok h
  rw [eDone_enc] at hdc HDE
  unfold EvS.val' at hen hck
  have HEN := Lib.hid hen
  have HDC := Lib.hid hdc
  have HPK := Lib.hid hpk
  have HCK := Lib.hid hck
  clear hen hdc hpk hck
  go_enter Try.func9, Try.ntmps9
  go_wp2_with fail
  refine (HEN.out _).mono ?_
  rintro e w1 ⟨rfl, b1⟩
  have B1 := Lib.hid b1
  clear b1
  go_wp2_with fail
  refine (HDC.out _).mono ?_
  rintro e w2 ⟨x, E, rfl, hd, b2⟩
  obtain ⟨rfl, rfl⟩ := HDE.out _ _ hd
  have B2 := Lib.hid (B1.out.trans (b2.mono B1.out.size))
  clear b2 hd
  obtain ⟨w3, hw3, b3, x3, s3⟩ := evBoxed w2 eDone
  have B3 := Lib.hid (B2.out.trans (b3.mono B2.out.size))
  unfold EvS.val'
  have X3 := Lib.hid x3
  clear b3 x3 s3
  go_wp2_with fail
  refine (HPK.out _).mono ?_
  rintro e w4 ⟨rfl, b4⟩
  have B4 := Lib.hid (B3.out.trans (b4.mono B3.out.size))
  obtain ⟨q0, q1, q2, q3, q4, q5, q6, q7⟩ := (X3.out.later b4).c
  clear b4
  have q3' : w4.cell? ⟨w2.heap.size, 3, none⟩ = some (.int .i64 6) := q3
  clear q3
  go_wp2_with fail
  refine (HCK.out _).mono ?_
  rintro e w5 ⟨rfl, b5⟩
  have B5 := Lib.hid (B4.out.trans (b5.mono B4.out.size))
  go_wp2
  go_ret
  exact ⟨rfl, B5.out⟩
end Go.Proofs.Ythliofijioghkaa

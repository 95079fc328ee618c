/- Layer 12's laws, whatever the program: what its calls must do; awake; ProgCodes, ProgReads, ProgApart. -/
import Derived.Test.YtefgnigbppfgfaaR12d
import Derived.Test.YtefgnigbppfgfaaR12g
namespace Go.Proofs.Ytefgnigbppfgfaa
open Go.RowKit
set_option linter.unusedVariables false

structure ProgK : Prop where
  named : ∀ (s : ByteArray) (w : World), s.size ≤ maxLen → Calls Try.prog 12 #[.string s] w fun e w' => e = .returned (.bool (nameB s)) ∧ Below w.heap.size w w'
  check : ∀ {w a c} (p : ProgS), ReadG w (.slice a p.steps.length c) p.steps → Calls Try.prog 11 #[p.val' a c] w fun e w' => e = .returned (.int .i64 (encE p : Nat)) ∧ Below w.heap.size w w'
  encode : ∀ {w a c} (p : ProgS), ReadG w (.slice a p.steps.length c) p.steps → Calls Try.prog 9 #[p.val' a c] w fun e w' => e = .returned (.tuple #[.string (encS p), .int .i64 (encE p : Nat)]) ∧ Below w.heap.size w w'
  decode : ∀ (s : ByteArray) (w : World), s.size ≤ 140737488351232 → Calls Try.prog 14 #[.string s] w fun e w' => ∃ a c p E, e = .returned (.tuple #[p.val' a c, .int .i64 (E : Nat)]) ∧ ReadG w' (.slice a p.steps.length c) p.steps ∧ DecEnd s p E ∧ Below w.heap.size w w'

def pAct : ProgS := ⟨[⟨1, ⟨#[97]⟩, ⟨#[]⟩, 1, 0, 0⟩], 0⟩
theorem pAct_ok : progB pAct = true := by decide
theorem pAct_enc : encS pAct = ⟨#[0, 1, 1, 1, 97, 1, 0, 0]⟩ := by
  unfold encS
  rw [if_pos pAct_ok]
  have h0 : putL 0 = [0] := putL_lt (by omega)
  have h1 : putL 1 = [1] := putL_lt (by omega)
  have e : encProg pAct = [0, 1, 1, 1, 97, 1, 0, 0] := by
    unfold encProg encSteps encStep textL pAct
    simp only [List.flatMap_cons, List.flatMap_nil, List.length_cons, List.length_nil, if_true]
    show putL 0 ++ putL 1 ++ (putL 1 ++ (putL 1 ++ [97] ++ putL 1 ++ (putL 0 ++ []) ++ putL 0) ++ []) = _
    rw [h0, h1]
    rfl
  rw [e]
  rfl
theorem pAct_zero : encE pAct = 0 := if_pos pAct_ok
def pBad : ProgS := ⟨[], -1⟩
theorem pBad_no : encE pBad = 130 := if_neg (by decide)
theorem ReadG.nil (w : World) : ReadG w (.slice none 0 0) [] := ⟨by simp [maxLen], fun x hx => (by cases hx), none, 0, rfl, .inl rfl⟩
theorem ReadG.one {w : World} {b : Nat} (x : StepS) (h : w.heap[b]? = some (.cells #[.int .i64 x.kind, .string x.name, .string x.undo, .int .i64 x.tries, .int .i64 x.undoTries, .int .i64 x.wait] 40 (0, 0))) (hn : x.name.size ≤ maxLen) (hu : x.undo.size ≤ maxLen) : ReadG w (.slice (some ⟨b, 0, none⟩) 1 1) [x] := by
  refine ⟨by simp [maxLen], fun y hy => by rw [List.mem_singleton.1 hy]; exact ⟨hn, hu⟩, _, _, rfl, .inr ⟨b, 0, rfl, fun i hi j u hu => ?_⟩⟩
  have hi0 : i = 0 := by simp at hi; exact hi
  subst hi0
  rw [block_cell h]
  match j, hu with
  | 0, hu | 1, hu | 2, hu | 3, hu | 4, hu | 5, hu => exact hu
theorem dec_enc {p q : ProgS} {E : Nat} (hp : progB p = true) (h : DecEnd (encS p) q E) : q = p ∧ E = 0 := by
  have hs : (encS p).data.toList = encProg p := by unfold encS; rw [if_pos hp]; simp [bx]
  unfold DecEnd at h
  rw [hs, okB_prog hp, rd_prog hp] at h
  rcases h with ⟨_, h1, h2⟩ | ⟨h, _⟩
  · exact ⟨h1, h2⟩
  · cases h
theorem dec_one {s : ByteArray} {p q : ProgS} {E F : Nat} (h : DecEnd s p E) (k : DecEnd s q F) : q = p ∧ F = E := by
  rcases h with ⟨a, b, c⟩ | ⟨a, b, c⟩ <;> rcases k with ⟨d, e, f⟩ | ⟨d, e, f⟩
  · exact ⟨e.trans b.symm, f.trans c.symm⟩
  · rw [a] at d; cases d
  · rw [a] at d; cases d
  · exact ⟨e.trans b.symm, f.trans c.symm⟩
/-- What was read is a program, and these are its bytes. -/
theorem dec_is {s : ByteArray} {p : ProgS} {E : Nat} (h : DecEnd s p E) : (E = 0 ∧ progB p = true ∧ encS p = s ∧ encE p = 0) ∨ (E = 60 ∧ p = ⟨[], 0⟩) := by
  rcases h with ⟨a, b, c⟩ | ⟨_, b, c⟩
  · refine .inl ⟨c, ?_⟩
    obtain ⟨q, hq, he⟩ := (okB_iff _).1 a
    have := (rd_is hq he).1
    rw [this] at b
    subst b
    refine ⟨hq, ?_, if_pos hq⟩
    unfold encS bx
    rw [if_pos hq, he]
  · exact .inr ⟨c, b⟩

set_option maxHeartbeats 2000000 in
set_option maxRecDepth 100000 in
theorem awake12_any (K : ProgK) (w : World) :
    Calls Try.prog 8 #[] w fun e w' => e = .returned (.bool true) ∧ Below w.heap.size w w' := by
  have hb0 : Below w.heap.size w (w.alloc (.cells #[.int .i64 1, .string ⟨#[97]⟩, .string ⟨#[]⟩, .int .i64 1, .int .i64 0, .int .i64 0] 40)) := (Below.refl _ w).alloc (Nat.le_refl _) _
  have hr := ReadG.one (b := w.heap.size) ⟨1, ⟨#[97]⟩, ⟨#[]⟩, 1, 0, 0⟩ (heap_alloc_new w (.cells #[.int .i64 1, .string ⟨#[97]⟩, .string ⟨#[]⟩, .int .i64 1, .int .i64 0, .int .i64 0] 40)) (by decide) (by decide)
  have hen := K.encode (a := some ⟨w.heap.size, 0, none⟩) (c := 1) pAct hr
  rw [pAct_enc, pAct_zero] at hen
  have hdc := fun w => K.decode ⟨#[0, 1, 1, 1, 97, 1, 0, 0]⟩ w (by decide)
  have hck := fun w => K.check (w := w) (a := none) (c := 0) pBad (ReadG.nil w)
  rw [pBad_no] at hck
  have HB0 := Lib.hid hb0
  have HEN := Lib.hid hen
  have HDC := Lib.hid hdc
  have HCK := Lib.hid hck
  clear hr hb0 hen hdc hck
  go_enter Try.func8, Try.ntmps8
  go_wp2_with fail
  refine HEN.out.mono ?_
  rintro e w1 ⟨rfl, b1⟩
  have B1 := Lib.hid (HB0.out.trans (b1.mono HB0.out.size))
  clear b1
  go_wp2_with fail
  refine (HDC.out w1).mono ?_
  rintro e w2 ⟨a, c, p, E, rfl, r2, hd, b2⟩
  rw [← pAct_enc] at hd
  obtain ⟨rfl, rfl⟩ := dec_enc pAct_ok hd
  have B2 := Lib.hid (B1.out.trans (b2.mono B1.out.size))
  clear b2 hd r2
  unfold ProgS.val' pAct
  simp only [List.length_cons, List.length_nil]
  have hb3 : Below w2.heap.size w2 (w2.alloc (.cells #[.slice a 1 c, .int .i64 0] 24)) := (Below.refl _ w2).alloc (Nat.le_refl _) _
  have B3 := Lib.hid (B2.out.trans (hb3.mono B2.out.size))
  have y0 : (w2.alloc (.cells #[.slice a 1 c, .int .i64 0] 24)).cell? ⟨w2.heap.size, 0, none⟩ = some (.slice a 1 c) := by rw [block_cell (heap_alloc_new _ _)]; rfl
  clear hb3
  go_wp2_with fail
  refine (HCK.out _).mono ?_
  rintro e w4 ⟨rfl, b4⟩
  have B4 := Lib.hid (B3.out.trans (b4.mono B3.out.size))
  clear b4 y0
  go_wp2
  go_ret
  exact ⟨rfl, B4.out⟩
end Go.Proofs.Ytefgnigbppfgfaa

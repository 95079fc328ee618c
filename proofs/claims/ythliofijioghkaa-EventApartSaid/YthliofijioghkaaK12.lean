/- Layer 12's laws, whatever the program: what its calls must do; awake; ProgCodes, ProgReads, ProgApart. -/
import Derived.Test.YthliofijioghkaaR12d
import Derived.Test.YthliofijioghkaaR12g
namespace Go.Proofs.Ythliofijioghkaa
open Go.RowKit
set_option linter.unusedVariables false

def pAct : ProgS := ⟨[⟨1, ⟨#[97]⟩, ⟨#[]⟩, 1, 0, 0⟩], 0⟩
theorem pAct_ok : progB pAct = true := by decide
theorem pAct_enc : encS pAct = ⟨#[0, 1, 1, 1, 97, 1, 0, 0]⟩ := by
  unfold encS
  rw [if_pos pAct_ok]
  have h0 : putL 0 = [0] := putL_lt (by omega)
  have h1 : putL 1 = [1] := putL_lt (by omega)
  have e : encProg pAct = [0, 1, 1, 1, 97, 1, 0, 0] := by
    unfold encProg encSteps encStep textL pAct
    simp only [List.flatMap_cons, List.flatMap_nil, List.length_cons, List.length_nil, if_true]
    show putL 0 ++ putL 1 ++ (putL 1 ++ (putL 1 ++ [97] ++ putL 1 ++ (putL 0 ++ []) ++ putL 0) ++ []) = _
    rw [h0, h1]
    rfl
  rw [e]
  rfl
theorem pAct_zero : encE pAct = 0 := if_pos pAct_ok
def pBad : ProgS := ⟨[], -1⟩
theorem pBad_no : encE pBad = 130 := if_neg (by decide)
theorem ReadG.nil (w : World) : ReadG w (.slice none 0 0) [] := ⟨by simp [maxLen], fun x hx => (by cases hx), none, 0, rfl, .inl rfl⟩
theorem ReadG.one {w : World} {b : Nat} (x : StepS) (h : w.heap[b]? = some (.cells #[.int .i64 x.kind, .string x.name, .string x.undo, .int .i64 x.tries, .int .i64 x.undoTries, .int .i64 x.wait] 93 (0, 0))) (hn : x.name.size ≤ maxLen) (hu : x.undo.size ≤ maxLen) : ReadG w (.slice (some ⟨b, 0, none⟩) 1 1) [x] := by
  refine ⟨by simp [maxLen], fun y hy => by rw [List.mem_singleton.1 hy]; exact ⟨hn, hu⟩, _, _, rfl, .inr ⟨b, 0, rfl, fun i hi j u hu => ?_⟩⟩
  have hi0 : i = 0 := by simp at hi; exact hi
  subst hi0
  rw [block_cell h]
  match j, hu with
  | 0, hu | 1, hu | 2, hu | 3, hu | 4, hu | 5, hu => exact hu
theorem dec_enc {p q : ProgS} {E : Nat} (hp : progB p = true) (h : DecEnd (encS p) q E) : q = p ∧ E = 0 := by
  have hs : (encS p).data.toList = encProg p := by unfold encS; rw [if_pos hp]; simp [bx]
  unfold DecEnd at h
  rw [hs, okB_prog hp, rd_prog hp] at h
  rcases h with ⟨_, h1, h2⟩ | ⟨h, _⟩
  · exact ⟨h1, h2⟩
  · cases h
theorem dec_one {s : ByteArray} {p q : ProgS} {E F : Nat} (h : DecEnd s p E) (k : DecEnd s q F) : q = p ∧ F = E := by
  rcases h with ⟨a, b, c⟩ | ⟨a, b, c⟩ <;> rcases k with ⟨d, e, f⟩ | ⟨d, e, f⟩
  · exact ⟨e.trans b.symm, f.trans c.symm⟩
  · rw [a] at d; cases d
  · rw [a] at d; cases d
  · exact ⟨e.trans b.symm, f.trans c.symm⟩
/-- What was read is a program, and these are its bytes. -/
theorem dec_is {s : ByteArray} {p : ProgS} {E : Nat} (h : DecEnd s p E) : (E = 0 ∧ progB p = true ∧ encS p = s ∧ encE p = 0) ∨ (E = 60 ∧ p = ⟨[], 0⟩) := by
  rcases h with ⟨a, b, c⟩ | ⟨_, b, c⟩
  · refine .inl ⟨c, ?_⟩
    obtain ⟨q, hq, he⟩ := (okB_iff _).1 a
    have := (rd_is hq he).1
    rw [this] at b
    subst b
    refine ⟨hq, ?_, if_pos hq⟩
    unfold encS bx
    rw [if_pos hq, he]
  · exact .inr ⟨c, b⟩

end Go.Proofs.Ythliofijioghkaa

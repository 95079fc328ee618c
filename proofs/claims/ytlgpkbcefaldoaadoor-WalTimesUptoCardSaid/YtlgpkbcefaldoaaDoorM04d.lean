/- Layer 4, plain facts: a crash at a known cut. -/
import Derived.Test.YtlgpkbcefaldoaaDoorM04c
namespace Go.Proofs.YtlgpkbcefaldoaaDoor
set_option linter.unusedVariables false

section
variable {nm : Key} {fs : List FileS} {last : List (List UInt8)} {d : Nat} {S : Bx}

/-- How many bytes of the current segment a crash leaves. -/
def cutN (last : List (List UInt8)) (d : Nat) (keep : List Int) : Nat := leftN keep 0 ⟨framesL last, endL last d⟩
theorem cutN_eq {last : List (List UInt8)} {d : Nat} (h : d ≤ last.length) (keep : List Int) : cutN last d keep = endL last d + min (keptN keep 0) (endL last last.length - endL last d) := by
  have := endL_mono last h (Nat.le_refl _)
  unfold cutN leftN
  simp only
  rw [← endL_all]
  split
  · rfl
  · rename_i h1
    have h2 : endL last last.length - endL last d = 0 := by omega
    rw [h2, Nat.min_zero, Nat.add_zero]
theorem LInv.crash_files (h : LInv nm fs last d S) (hne : last ≠ []) (keep : List Int) : (S.crash keep).files = if 0 < cutN last d keep then segsL nm 1 (fs ++ [⟨(framesL last).take (cutN last d keep), cutN last d keep⟩]) else segsL nm 1 fs := by
  have hl := h.len
  have e1 : curF last d = [⟨framesL last, endL last d⟩] := by unfold curF; rw [if_neg hne]
  show (crashL keep S.files).1 = _
  rw [h.files, e1, crash_cur keep h.firm (by omega)]
  rfl
/-- .. and the records in them. -/
theorem cut_scan (hs : ∀ l ∈ last, l.length ≤ 1048576) (hd : d ≤ last.length) (keep : List Int) {j : Nat} (hj : j ≤ last.length) (h1 : endL last j ≤ cutN last d keep) (h2 : j < last.length → cutN last d keep < endL last (j + 1)) (k : Nat) :
    scan1 ⟨(framesL last).take (cutN last d keep), k⟩ = last.take j := by
  have hm := cutN_eq hd keep
  have hmo := endL_mono last hd (Nat.le_refl _)
  have := congrArg Prod.fst (scanL_part hs hj h1 h2 (by rw [← endL_all]; omega)).1
  exact this
theorem LInv.crash_next (h : LInv nm fs last d S) (hne : last ≠ []) (keep : List Int) (h0 : 0 < cutN last d keep) (hl : fs.length + 2 ≤ 99999999) :
    LInv nm (fs ++ [⟨(framesL last).take (cutN last d keep), cutN last d keep⟩]) [] 0 (S.crash keep) := by
  have hm := cutN_eq h.dle keep
  have hmo := endL_mono last h.dle (Nat.le_refl _)
  have ha := endL_all last
  have hlen : ((framesL last).take (cutN last d keep)).length = cutN last d keep := by rw [List.length_take]; omega
  refine ⟨?_, ?_, by simp, Nat.le_refl _, by simp; omega⟩
  · rw [h.crash_files hne keep, if_pos h0]
    unfold curF
    rw [if_pos rfl, List.append_nil]
  · intro f hf
    rcases List.mem_append.1 hf with hf | hf
    · exact h.firm f hf
    · rw [List.mem_singleton] at hf
      subst hf
      exact ⟨hlen.symm, by rw [hlen]; exact h0⟩
theorem LInv.recs (h : LInv nm fs [] 0 S) : recsL nm S.files = scans fs ∧ curOf nm S.files = fs.length + 1 := by
  have hl := h.len
  rw [h.files]
  have e1 : curF [] 0 = [] := rfl
  rw [e1, List.append_nil]
  exact ⟨recsL_segsL 1 fs (by omega) (by omega), curOf_segsL fs (by omega)⟩
end
end Go.Proofs.YtlgpkbcefaldoaaDoor

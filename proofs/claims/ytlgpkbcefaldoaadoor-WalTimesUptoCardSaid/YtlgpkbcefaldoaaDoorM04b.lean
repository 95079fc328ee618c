/- Layer 4, plain facts: what a log's calls make of its segments, and what a crash leaves of them. -/
import Derived.Test.YtlgpkbcefaldoaaDoorM04
import Derived.Test.YtlgpkbcefaldoaaDoorM03b
import Derived.Test.YtlgpkbcefaldoaaDoorM02c
namespace Go.Proofs.YtlgpkbcefaldoaaDoor
set_option linter.unusedVariables false

def scan1 (f : FileS) : List (List UInt8) := (scanL f.bytes).1
def scans (fs : List FileS) : List (List UInt8) := fs.flatMap scan1
theorem scans_append (a b : List FileS) : scans (a ++ b) = scans a ++ scans b := by simp [scans]

/-- A segment that is durable, and has bytes. -/
structure Firm (f : FileS) : Prop where
  dur : f.dur = f.bytes.length
  pos : 0 < f.bytes.length

theorem frameL_pos (l : List UInt8) : 0 < (frameL l).length := by rw [frameL_len]; omega
theorem framesL_snoc (ls : List (List UInt8)) (l : List UInt8) : framesL (ls ++ [l]) = framesL ls ++ frameL l := by simp [framesL]
theorem framesL_pos {ls : List (List UInt8)} (h : ls ≠ []) : 0 < (framesL ls).length := by
  cases ls with
  | nil => exact absurd rfl h
  | cons a r => rw [framesL_cons, List.length_append]; have := frameL_pos a; omega
theorem endL_snoc {ls : List (List UInt8)} {l : List UInt8} {d : Nat} (h : d ≤ ls.length) : endL (ls ++ [l]) d = endL ls d := by
  unfold endL
  rw [List.take_append_of_le_length h]
theorem endL_mono (ls : List (List UInt8)) {a b : Nat} (h : a ≤ b) (hb : b ≤ ls.length) : endL ls a ≤ endL ls b := by
  induction b with
  | zero => rw [Nat.le_zero.1 h]; exact Nat.le_refl _
  | succ b ih =>
    by_cases he : a = b + 1
    · rw [he]; exact Nat.le_refl _
    · have := ih (by omega) (by omega)
      rw [endL_next (by omega)]; omega
/-- Where a cut falls. -/
theorem cut_at (ls : List (List UInt8)) {d m : Nat} (hd : d ≤ ls.length) (h1 : endL ls d ≤ m) : ∃ j, d ≤ j ∧ j ≤ ls.length ∧ endL ls j ≤ m ∧ (j < ls.length → m < endL ls (j + 1)) := by
  have key : ∀ n j, ls.length - j = n → d ≤ j → j ≤ ls.length → endL ls j ≤ m → ∃ j, d ≤ j ∧ j ≤ ls.length ∧ endL ls j ≤ m ∧ (j < ls.length → m < endL ls (j + 1)) := by
    intro n
    induction n with
    | zero => intro j hn h2 h3 h4; exact ⟨j, h2, h3, h4, fun h => by omega⟩
    | succ n ih =>
      intro j hn h2 h3 h4
      by_cases hm : m < endL ls (j + 1)
      · exact ⟨j, h2, h3, h4, fun _ => hm⟩
      · exact ih (j + 1) (by omega) (by omega) (by omega) (by omega)
  exact key _ d rfl (Nat.le_refl _) hd h1

/-- The segment that is appended to, if there is one: the records in it, so many of them durable. -/
def curF (last : List (List UInt8)) (d : Nat) : List FileS := if last = [] then [] else [⟨framesL last, endL last d⟩]

structure LInv (nm : Key) (fs : List FileS) (last : List (List UInt8)) (d : Nat) (S : Bx) : Prop where
  files : S.files = segsL nm 1 (fs ++ curF last d)
  firm : ∀ f ∈ fs, Firm f
  small : ∀ l ∈ last, l.length ≤ 1048576
  dle : d ≤ last.length
  len : fs.length + 1 ≤ 99999999

section
variable {nm : Key} {fs : List FileS} {last : List (List UInt8)} {d : Nat} {S T : Bx}
theorem LInv.same (h : LInv nm fs last d S) (hf : T.files = S.files) : LInv nm fs last d T := ⟨hf.trans h.files, h.firm, h.small, h.dle, h.len⟩
theorem LInv.start (nm : Key) : LInv nm [] [] 0 Bx.new := ⟨rfl, by simp, by simp, Nat.le_refl _, by simp⟩

theorem Bx.append_err {n : Key} {x : List UInt8} (h : (S.append n x).2 ≠ 0) : (S.append n x).1.files = S.files := by
  unfold Bx.append at *
  split
  · rfl
  · split
    · rfl
    · unfold Bx.change
      split
      · rfl
      · rename_i h1 h2 h3
        rw [if_neg h1, if_neg h2, Bx.change_yes h3] at h
        exact absurd rfl h
theorem Bx.sync_err {n : Key} (h : (S.sync n).2 ≠ 0) : (S.sync n).1.files = S.files := by
  by_cases hd : S.down = true
  · rw [Bx.sync_down hd]
  · have hd' : S.down = false := by simpa using hd
    cases hf : findK n S.files with
    | none => rw [Bx.sync_none hd' hf]
    | some f =>
      rw [Bx.sync_some hd' hf] at h ⊢
      by_cases h0 : S.fuel = 0
      · rw [Bx.change_no h0]; rfl
      · rw [Bx.change_yes h0] at h
        exact absurd rfl h
theorem Bx.append_good {n : Key} {x : List UInt8} (h : (S.append n x).2 = 0) : (S.append n x).1.files = addK n x S.files := by
  unfold Bx.append at *
  split at h
  · cases h
  · rename_i h1
    split at h
    · cases h
    · rename_i h2
      by_cases h0 : S.fuel = 0
      · rw [Bx.change_no h0] at h; cases h
      · rw [if_neg h1, if_neg h2, Bx.change_yes h0]
theorem Bx.sync_good {n : Key} (h : (S.sync n).2 = 0) : ∃ f, findK n S.files = some f ∧ (S.sync n).1.files = updK n (firmF f) S.files := by
  by_cases hd : S.down = true
  · rw [Bx.sync_down hd] at h; cases h
  · have hd' : S.down = false := by simpa using hd
    cases hf : findK n S.files with
    | none => rw [Bx.sync_none hd' hf] at h; cases h
    | some f =>
      refine ⟨f, rfl, ?_⟩
      rw [Bx.sync_some hd' hf] at h ⊢
      by_cases h0 : S.fuel = 0
      · rw [Bx.change_no h0] at h; cases h
      · rw [Bx.change_yes h0]

theorem LInv.find (h : LInv nm fs last d S) (hne : last ≠ []) : findK (segName nm (fs.length + 1)) S.files = some ⟨framesL last, endL last d⟩ := by
  have hl := h.len
  rw [h.files]
  unfold curF
  rw [if_neg hne, findK_segsL 1 _ (fs.length + 1) (by omega) (by simp) (by simp; omega)]
  simp
theorem LInv.find_none (h : LInv nm fs [] d S) : findK (segName nm (fs.length + 1)) S.files = none := by
  have hl := h.len
  rw [h.files]
  unfold curF
  rw [if_pos rfl, List.append_nil]
  exact findK_segsL_none 1 fs _ (by omega) (by omega) (by omega)

theorem set_last (fs : List FileS) (a b : FileS) : (fs ++ [a]).set (fs.length + 1 - 1) b = fs ++ [b] := by
  rw [Nat.add_sub_cancel, List.set_append_right _ _ (Nat.le_refl _)]
  simp

theorem LInv.append (h : LInv nm fs last d S) {r : List UInt8} (hr : r.length ≤ 1048576) : ((S.append (segName nm (fs.length + 1)) (frameL r)).2 ≠ 0 ∧ LInv nm fs last d (S.append (segName nm (fs.length + 1)) (frameL r)).1) ∨
    ((S.append (segName nm (fs.length + 1)) (frameL r)).2 = 0 ∧ LInv nm fs (last ++ [r]) d (S.append (segName nm (fs.length + 1)) (frameL r)).1) := by
  have hl := h.len
  by_cases he : (S.append (segName nm (fs.length + 1)) (frameL r)).2 = 0
  · refine .inr ⟨he, ?_, h.firm, ?_, by rw [List.length_append]; have := h.dle; omega, hl⟩
    · rw [Bx.append_good he]
      have hc : curF (last ++ [r]) d = [⟨framesL (last ++ [r]), endL (last ++ [r]) d⟩] := by unfold curF; rw [if_neg (by simp)]
      rw [hc, framesL_snoc, endL_snoc h.dle]
      by_cases hne : last = []
      · subst hne
        unfold addK
        rw [h.find_none, h.files]
        have hd0 : d = 0 := by have := h.dle; simpa using this
        subst hd0
        have e1 : curF [] 0 = [] := rfl
        simp only
        rw [e1, List.append_nil]
        have := insK_segsL (nm := nm) (g := ⟨frameL r, 0⟩) 1 fs (by omega)
        rw [Nat.add_comm] at this
        rw [this]
        rfl
      · unfold addK
        rw [h.find hne, h.files]
        have e1 : curF last d = [⟨framesL last, endL last d⟩] := by unfold curF; rw [if_neg hne]
        simp only
        rw [e1, updK_segsL 1 _ (fs.length + 1) (by omega) (by simp) (by simp; omega), set_last]
        rfl
    · intro l hm
      rcases List.mem_append.1 hm with hm | hm
      · exact h.small l hm
      · rw [List.mem_singleton] at hm
        rw [hm]; exact hr
  · exact .inl ⟨he, h.same (Bx.append_err he)⟩

theorem LInv.sync (h : LInv nm fs last d S) (hne : last ≠ []) : ((S.sync (segName nm (fs.length + 1))).2 ≠ 0 ∧ LInv nm fs last d (S.sync (segName nm (fs.length + 1))).1) ∨
    ((S.sync (segName nm (fs.length + 1))).2 = 0 ∧ LInv nm fs last last.length (S.sync (segName nm (fs.length + 1))).1) := by
  have hl := h.len
  by_cases he : (S.sync (segName nm (fs.length + 1))).2 = 0
  · refine .inr ⟨he, ?_, h.firm, h.small, Nat.le_refl _, hl⟩
    obtain ⟨f, hf, hs⟩ := Bx.sync_good he
    rw [h.find hne] at hf
    injection hf with hf
    subst hf
    rw [hs, h.files]
    have e1 : ∀ e, curF last e = [⟨framesL last, endL last e⟩] := fun e => by unfold curF; rw [if_neg hne]
    rw [e1, e1, updK_segsL 1 _ (fs.length + 1) (by omega) (by simp) (by simp; omega), set_last, endL_all]
    rfl
  · exact .inl ⟨he, h.same (Bx.sync_err he)⟩

/-- The current segment is done with. -/
theorem LInv.close (h : LInv nm fs last last.length S) (hne : last ≠ []) (hl : fs.length + 2 ≤ 99999999) : LInv nm (fs ++ [⟨framesL last, (framesL last).length⟩]) [] 0 S := by
  refine ⟨?_, ?_, by simp, Nat.le_refl _, by simp; omega⟩
  · rw [h.files]
    unfold curF
    rw [if_neg hne, if_pos rfl, List.append_nil, endL_all]
  · intro f hf
    rcases List.mem_append.1 hf with hf | hf
    · exact h.firm f hf
    · rw [List.mem_singleton] at hf
      subst hf
      exact ⟨rfl, framesL_pos hne⟩
theorem scan1_frames {ls : List (List UInt8)} (h : ∀ l ∈ ls, l.length ≤ 1048576) (k : Nat) : scan1 ⟨framesL ls, k⟩ = ls := by
  unfold scan1
  have := scanL_frames h [] (by rw [nextL_nil]; simp)
  rw [List.append_nil] at this
  rw [this]

/-! ### crashes -/
theorem crash_firm (keep : List Int) : ∀ (n : Nat) (fs : List FileS), fs.length = n → (∀ f ∈ fs, Firm f) → 1 + fs.length ≤ 100000000 → crashL keep (segsL nm 1 fs) = (segsL nm 1 fs, 0) := by
  intro n
  induction n with
  | zero =>
    intro fs hn _ _
    rw [List.eq_nil_of_length_eq_zero hn]; rfl
  | succ n ih =>
    intro fs hn hf hl
    have hne : fs ≠ [] := by rintro rfl; simp at hn
    obtain ⟨m, g, rfl⟩ : ∃ m g, fs = m ++ [g] := ⟨fs.dropLast, fs.getLast hne, (List.dropLast_concat_getLast hne).symm⟩
    rw [List.length_append, List.length_singleton] at hn hl
    have hm := ih m (by omega) (fun f h => hf f (by simp [h])) (by omega)
    have hg := hf g (by simp)
    rw [segsL_append]
    have e : crashL keep (segsL nm 1 m ++ segsL nm (1 + m.length) [g]) = crashStep keep (crashL keep (segsL nm 1 m)) (segName nm (1 + m.length), g) := by
      unfold crashL
      rw [List.foldl_append]; rfl
    rw [e, hm]
    unfold crashStep
    have hleft : leftN keep 0 g = g.bytes.length := by unfold leftN; rw [if_neg (by rw [hg.dur]; omega), hg.dur]
    simp only
    rw [hleft, if_pos hg.pos, if_neg (by rw [hg.dur]; omega), List.take_length]
    have hge : (⟨g.bytes, g.bytes.length⟩ : FileS) = g := by rw [← hg.dur]
    rw [hge, insK_segsL 1 m (by omega), segsL_append]
theorem crash_cur (keep : List Int) {g : FileS} (hf : ∀ f ∈ fs, Firm f) (hl : 1 + (fs.length + 1) ≤ 100000000) :
    (crashL keep (segsL nm 1 (fs ++ [g]))).1 = if 0 < leftN keep 0 g then segsL nm 1 (fs ++ [⟨g.bytes.take (leftN keep 0 g), leftN keep 0 g⟩]) else segsL nm 1 fs := by
  rw [segsL_append]
  have e : crashL keep (segsL nm 1 fs ++ segsL nm (1 + fs.length) [g]) = crashStep keep (crashL keep (segsL nm 1 fs)) (segName nm (1 + fs.length), g) := by
    unfold crashL
    rw [List.foldl_append]; rfl
  rw [e, crash_firm keep _ fs rfl hf (by omega)]
  unfold crashStep
  simp only
  split
  · rw [insK_segsL 1 fs (by omega)]
  · rfl

/-- What Open finds behind a crash. -/
structure LeftL (nm : Key) (fs : List FileS) (last : List (List UInt8)) (j : Nat) (T : Bx) : Prop where
  recs : recsL nm T.files = scans fs ++ last.take j
  cur : curOf nm T.files ≤ fs.length + 2
theorem curOf_segs (fs : List FileS) (h : 1 + fs.length ≤ 100000000) : curOf nm (segsL nm 1 fs) = fs.length + 1 := curOf_segsL fs h

theorem LInv.crash (h : LInv nm fs last d S) (keep : List Int) : ∃ j, d ≤ j ∧ j ≤ last.length ∧ LeftL nm fs last j (S.crash keep) := by
  have hl := h.len
  by_cases hne : last = []
  · subst hne
    refine ⟨0, by have := h.dle; simpa using this, Nat.le_refl _, ?_, ?_⟩
    · show recsL nm (crashL keep S.files).1 = _
      rw [h.files]
      have e1 : curF [] d = [] := rfl
      rw [e1, List.append_nil, crash_firm keep _ fs rfl h.firm (by omega), recsL_segsL 1 fs (by omega) (by omega)]
      simp only [List.take_nil, List.append_nil]
      rfl
    · show curOf nm (crashL keep S.files).1 ≤ _
      rw [h.files]
      have e1 : curF [] d = [] := rfl
      rw [e1, List.append_nil, crash_firm keep _ fs rfl h.firm (by omega), curOf_segs fs (by omega)]
      omega
  · have e1 : curF last d = [⟨framesL last, endL last d⟩] := by unfold curF; rw [if_neg hne]
    have hm1 : endL last d ≤ leftN keep 0 ⟨framesL last, endL last d⟩ := by unfold leftN; split <;> simp
    have hdl := endL_mono last h.dle (Nat.le_refl _)
    rw [endL_all] at hdl
    have hm2 : leftN keep 0 ⟨framesL last, endL last d⟩ ≤ (framesL last).length := by
      unfold leftN
      simp only
      split <;> omega
    obtain ⟨j, hj1, hj2, hj3, hj4⟩ := cut_at last h.dle hm1
    have hsc := congrArg Prod.fst (scanL_part h.small hj2 hj3 hj4 hm2).1
    simp only at hsc
    refine ⟨j, hj1, hj2, ?_, ?_⟩
    · show recsL nm (crashL keep S.files).1 = _
      rw [h.files, e1, crash_cur keep h.firm (by omega)]
      split
      · rw [recsL_segsL 1 _ (by omega) (by simp; omega)]
        show scans (fs ++ _) = _
        rw [scans_append]
        congr 1
        show (scanL _).1 ++ [] = _
        rw [List.append_nil]
        exact hsc
      · rename_i h0
        rw [recsL_segsL 1 fs (by omega) (by omega)]
        have hz : leftN keep 0 ⟨framesL last, endL last d⟩ = 0 := by omega
        rw [hz, List.take_zero] at hsc
        rw [← hsc]
        have : (scanL []).1 = [] := by rw [scanL_bad (by rw [nextL_nil]; simp)]
        rw [this, List.append_nil]; rfl
    · show curOf nm (crashL keep S.files).1 ≤ _
      rw [h.files, e1, crash_cur keep h.firm (by omega)]
      split
      · rw [curOf_segs _ (by simp; omega)]; simp
      · rw [curOf_segs fs (by omega)]; omega
end
end Go.Proofs.YtlgpkbcefaldoaaDoor

/- Layer 4, plain facts: segments of one record each, dropped. -/
import Derived.Test.YtlgpkbcefaldoaaDoorM04d
namespace Go.Proofs.YtlgpkbcefaldoaaDoor
set_option linter.unusedVariables false

def segF (l : List UInt8) : FileS := ⟨framesL [l], (framesL [l]).length⟩
def fsOf (ls : List (List UInt8)) : List FileS := ls.map segF
theorem fsOf_len (ls : List (List UInt8)) : (fsOf ls).length = ls.length := by simp [fsOf]
theorem fsOf_snoc (ls : List (List UInt8)) (l : List UInt8) : fsOf (ls ++ [l]) = fsOf ls ++ [⟨framesL ([] ++ [l]), (framesL ([] ++ [l])).length⟩] := by simp [fsOf, segF]
theorem scans_fsOf {ls : List (List UInt8)} (h : ∀ l ∈ ls, l.length ≤ 1048576) : scans (fsOf ls) = ls := by
  induction ls with
  | nil => rfl
  | cons a r ih =>
    have e : fsOf (a :: r) = segF a :: fsOf r := rfl
    rw [e]
    show scan1 (segF a) ++ scans (fsOf r) = a :: r
    rw [ih (fun l hl => h l (by simp [hl]))]
    unfold segF
    rw [scan1_frames (by intro l hl; rw [List.mem_singleton] at hl; rw [hl]; exact h a (by simp))]
    rfl
theorem fsOf_drop (ls : List (List UInt8)) (k : Nat) : (fsOf ls).drop k = fsOf (ls.drop k) := by simp [fsOf]

theorem Up.delete' {S : Bx} (h : Up S) (n : Key) : Up (S.delete n).1 := by
  cases hf : findK n S.files with
  | none => rw [Bx.delete_none h.up hf]; exact h
  | some f => exact (h.delete hf).2.1
theorem Up.dropSegs {nm : Key} {u : Int} : ∀ {ns : List Nat} {S : Bx}, Up S → Up (dropSegs nm u ns S).1
  | [], S, h => h
  | n :: r, S, h => by
    unfold Go.Proofs.YtlgpkbcefaldoaaDoor.dropSegs
    split
    · exact h
    · split
      · exact Up.dropSegs (h.delete' _)
      · exact h.delete' _
theorem dropSegs_weigh {nm : Key} {u : Int} : ∀ {ns : List Nat} {S : Bx}, weigh (dropSegs nm u ns S).1.files ≤ weigh S.files
  | [], S => Nat.le_refl _
  | n :: r, S => by
    unfold dropSegs
    split
    · exact Nat.le_refl _
    · split
      · exact Nat.le_trans dropSegs_weigh (S.delete_weigh _)
      · exact S.delete_weigh _
theorem append_bound {S : Bx} {n : Key} {d : List UInt8} {M : Nat} (h : ∀ x ∈ S.files, x.2.bytes.length ≤ M) : ∀ x ∈ (S.append n d).1.files, x.2.bytes.length ≤ M + d.length := by
  by_cases he : (S.append n d).2 = 0
  · rw [Bx.append_good he]
    unfold addK
    cases hf : findK n S.files with
    | none =>
      intro x hx
      rcases List.mem_cons.1 ((insK_perm _ _).mem_iff.1 hx) with rfl | hx
      · show d.length ≤ _; omega
      · have := h x hx; omega
    | some f =>
      intro x hx
      rcases mem_upd hx with rfl | hx
      · have := h _ (findK_mem hf)
        show (f.bytes ++ d).length ≤ _
        rw [List.length_append]
        have e : f.bytes.length ≤ M := this
        omega
      · have := h x hx; omega
  · rw [Bx.append_err he]
    intro x hx
    have := h x hx
    omega
theorem findK_other {nm k : Key} (h : segNum nm k = 0) : ∀ (i : Nat) (fs : List FileS), 1 ≤ i → i + fs.length ≤ 100000000 → findK k (segsL nm i fs) = none
  | _, [], _, _ => rfl
  | i, f :: r, h1, hl => by
    rw [List.length_cons] at hl
    rw [segsL, findK_cons, if_neg (fun e => by
      have e' : segName nm i = k := e
      rw [← e', segNum_name nm (by omega)] at h; omega)]
    exact findK_other h (i + 1) r (by omega) (by omega)

structure Dropped (nm : Key) (ls : List (List UInt8)) (o : Key) (u : Int) (R : Bx × Int) : Prop where
  ok : R.2 = 0
  recs : recsL nm R.1.files = ls.drop u.toNat
  cur : curOf nm R.1.files ≤ 99999999
  read : nameOK o = true → R.1.read o = ([121], 0)

theorem drops_pure {nm : Key} {ls : List (List UInt8)} (hs : ∀ l ∈ ls, l.length ≤ 1048576) {S : Bx} (hU : Up S) (hI : LInv nm (fsOf ls) [] 0 S) {o : Key} (ho : segNum nm o = 0) {u : Int} (hu : u ≤ ls.length) :
    Dropped nm ls o u (dropSegs nm u (segsOf nm (S.append o [121]).1.files) (S.append o [121]).1) := by
  have hl := hI.len
  rw [fsOf_len] at hl
  have e1 : curF [] 0 = [] := rfl
  have hf : S.files = segsL nm 1 (fsOf ls) := by rw [hI.files, e1, List.append_nil]
  have hnone : findK o S.files = none := by rw [hf]; exact findK_other ho 1 _ (by omega) (by rw [fsOf_len]; omega)
  have hP : segP nm (S.append o [121]).1.files = segsL nm 1 (fsOf ls) := by
    have h0 : segP nm S.files = segsL nm 1 (fsOf ls) := by rw [hf]; exact segP_segsL 1 _ (by omega) (by rw [fsOf_len]; omega)
    by_cases he : (S.append o [121]).2 = 0
    · rw [Bx.append_good he]
      unfold addK
      rw [hnone]
      simp only
      rw [segP_ins ho, h0]
    · rw [Bx.append_err he, h0]
  have hsg : segsOf nm (S.append o [121]).1.files = List.range' 1 (fsOf ls).length := by
    rw [segsOf_segP, hP]
    have := segsOf_segsL (nm := nm) 1 (fsOf ls) (by omega) (by rw [fsOf_len]; omega)
    rw [segsOf_segP, segP_segsL 1 _ (by omega) (by rw [fsOf_len]; omega)] at this
    exact this
  rw [hsg]
  have hk : u.toNat = min (fsOf ls).length (u + 1 - ((1 : Nat) : Int)).toNat := by rw [fsOf_len]; omega
  obtain ⟨g1, g2, g3, g4⟩ := dropSegs_up u (fsOf ls) 1 (S.append o [121]).1 (by omega) (by rw [fsOf_len]; omega) (hU.append' _ _) hP u.toNat hk
  refine ⟨g1, ?_, ?_, fun hn => ?_⟩
  · rw [recsL_segP, g3, fsOf_drop]
    have := recsL_segsL (nm := nm) (1 + u.toNat) (fsOf (ls.drop u.toNat)) (by omega) (by rw [fsOf_len, List.length_drop]; omega)
    rw [recsL_segP, segP_segsL _ _ (by omega) (by rw [fsOf_len, List.length_drop]; omega)] at this
    rw [this]
    exact scans_fsOf (fun l h => hs l (List.mem_of_mem_drop h))
  · refine curOf_le (m := 99999998) (fun n hn => ?_)
    rw [segsOf_segP, g3, fsOf_drop] at hn
    have := segsOf_segsL (nm := nm) (1 + u.toNat) (fsOf (ls.drop u.toNat)) (by omega) (by rw [fsOf_len, List.length_drop]; omega)
    rw [segsOf_segP, segP_segsL _ _ (by omega) (by rw [fsOf_len, List.length_drop]; omega)] at this
    rw [this, fsOf_len, List.length_drop] at hn
    have := List.mem_range'_1.1 hn
    omega
  · rw [Bx.read_some g2.up (f := ⟨[121], 0⟩)]
    rw [g4 o ho]
    have he := (hU.append hn [121]).1
    rw [Bx.append_good he]
    unfold addK
    rw [hnone]
    simp only
    rw [findK_ins hnone, if_pos rfl]
end Go.Proofs.YtlgpkbcefaldoaaDoor

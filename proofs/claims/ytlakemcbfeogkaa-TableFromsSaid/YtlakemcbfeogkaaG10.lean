/- Joined: W07b W07c W07d W07e W07f W07g W07h. -/
import Derived.Test.YtlakemcbfeogkaaW07
import Derived.Test.YtlakemcbfeogkaaShelf
import Derived.Test.YtlakemcbfeogkaaG5
import Derived.Test.YtlakemcbfeogkaaG6
import Derived.Test.YtlakemcbfeogkaaG2
import Derived.Test.YtlakemcbfeogkaaG1

namespace Go.Proofs.Ytlakemcbfeogkaa
open Go.RowKit Go.Lib
set_option linter.unusedVariables false

/-- The builder at b holds the bytes l; all it has lies from B on. -/
def BuildT (w : World) (B b : Nat) (l : List UInt8) : Prop := Lib.IsBuilderF 60 5 B b (Lib.byteCells l) w
theorem BuildT.lt {w : World} {B b : Nat} {l : List UInt8} (h : BuildT w B b l) : b < w.heap.size := by
  rcases h with h | h <;> exact h.lt
theorem BuildT.kept {w w' : World} {B b : Nat} {l : List UInt8} {row : Option Nat} (h : BuildT w B b l) (hg : w.grownBy w' row) (hr : ∀ r, row = some r → ∃ o, w.heap[r]? = some o ∧ o.isCells = false) : BuildT w' B b l := by
  have key : ∀ p, Lib.BuilderAtF 60 5 B b p (Lib.byteCells l) w → Lib.BuilderAtF 60 5 B b p (Lib.byteCells l) w' := by
    rintro p ⟨hB, v, hbk, hown, hne⟩
    refine ⟨hB, v, ?_, hown.kept hg ?_, hne⟩
    · rw [hg.block b (Array.getElem?_eq_some_iff.1 hbk).1 (fun e => ?_)]
      · exact hbk
      · obtain ⟨o, h1, h2⟩ := hr b e.symm
        rw [hbk] at h1
        cases h1
        cases h2
    · cases hv : v.ownBlock with
      | none => exact .inl rfl
      | some k =>
        refine .inr (fun e => ?_)
        obtain ⟨o, h1, h2⟩ := hr k e.symm
        rcases hown.2 with ⟨rfl, _⟩ | ⟨g, cap, cur, fz, rfl, _, hg2, _⟩
        · cases hv
        · simp [Value.ownBlock] at hv
          subst hv
          rw [hg2] at h1
          cases h1
          cases h2
  rcases h with h | h
  · exact .inl (key _ h)
  · exact .inr (key _ h)
theorem BuildT.ownFrom {α : Type} (B b D : Nat) (f : α → List UInt8) : OwnFrom D (fun s W => BuildT W B b (f s)) := fun s W W' row hs hg hr => hs.kept hg (fun r e => (hr r e).2)
theorem BuildT.alloc {w : World} {B b : Nat} {l : List UInt8} (h : BuildT w B b l) (o : Obj) : BuildT (w.alloc o) B b l := by
  rcases h with h | h
  · exact .inl (h.alloc o)
  · exact .inr (h.alloc o)
theorem BuildT.kept2 {w w' : World} {B b : Nat} {l : List UInt8} (h : BuildT w B b l) (hb : Below w.heap.size w w') : BuildT w' B b l :=
  h.kept (row := none) ⟨hb.os, hb.tape, hb.output, hb.size, fun k hk _ => hb.block k hk⟩ (fun r e => by cases e)
theorem BuildT.far {w w' : World} {B b : Nat} {l : List UInt8} (h : BuildT w B b l) (hk : ∀ k, B ≤ k → k < w.heap.size → w'.heap[k]? = w.heap[k]?) : BuildT w' B b l := by
  have key : ∀ p, Lib.BuilderAtF 60 5 B b p (Lib.byteCells l) w → Lib.BuilderAtF 60 5 B b p (Lib.byteCells l) w' := by
    rintro p ⟨hBb, v, hbk, hown, hne⟩
    refine ⟨hBb, v, (hk b hBb (block_lt hbk)).trans hbk, ⟨hown.1, ?_⟩, hne⟩
    rcases hown.2 with h | ⟨g, cap, cur, fz, h1, h2, h3, h4⟩
    · exact .inl h
    · exact .inr ⟨g, cap, cur, fz, h1, h2, (hk g h2 (block_lt h3)).trans h3, h4⟩
  rcases h with h | h
  · exact .inl (key _ h)
  · exact .inr (key _ h)
theorem BuildT.new (w : World) : BuildT (w.alloc (.cells #[.pointer none, .slice none 0 0] 60)) w.heap.size w.heap.size [] :=
  Lib.IsBuilderF.of (Lib.fresh_isBuilder _ _ w)
theorem BuildT.low {w : World} {B B' b : Nat} {l : List UInt8} (h : BuildT w B b l) (hB : B' ≤ B) : BuildT w B' b l := by
  have key : ∀ p, Lib.BuilderAtF 60 5 B b p (Lib.byteCells l) w → Lib.BuilderAtF 60 5 B' b p (Lib.byteCells l) w := by
    rintro p ⟨hBb, v, hbk, hown, hne⟩
    refine ⟨by omega, v, hbk, ⟨hown.1, ?_⟩, hne⟩
    rcases hown.2 with h | ⟨g, cap, cur, fz, h1, h2, h3⟩
    · exact .inl h
    · exact .inr ⟨g, cap, cur, fz, h1, by omega, h3⟩
  rcases h with h | h
  · exact .inl (key _ h)
  · exact .inr (key _ h)

/-- Only builders and bytes are turned. -/
def KeepB (w w' : World) : Prop := ∀ (k : Nat) (o : Obj), w.heap[k]? = some o → (∀ (cs : Array Value) (t : TypeId) (fr : Nat × Nat), o = Obj.cells cs t fr → t ≠ 60 ∧ t ≠ 5) → w'.heap[k]? = some o
theorem KeepB.refl (w : World) : KeepB w w := fun _ _ h _ => h
theorem KeepB.trans {a b c : World} (h : KeepB a b) (k : KeepB b c) : KeepB a c := fun i o h1 h2 => k i o (h i o h1 h2) h2
theorem KeepB.of_below {w w' : World} (h : Below w.heap.size w w') : KeepB w w' := fun k o h1 _ => (h.block k (block_lt h1)).trans h1
theorem KeepB.set {w : World} {b j : Nat} {v : Value} {cs : Array Value} {fr : Nat × Nat} (hb : w.heap[b]? = some (.cells cs 60 fr)) : KeepB w (w.setCell ⟨b, j, none⟩ v) := fun k o h1 h2 => by
  rw [block_other (fun e => ?_)]
  · exact h1
  · subst e
    rw [hb] at h1
    cases h1
    exact (h2 _ _ _ rfl).1 rfl
theorem KeepB.grown {w w' : World} {B : Nat} {v : Value} {n : Nat} {xs : List Value} (hown : w.ownsRowF B 5 1 v n xs) (hg : w.grownBy w' v.ownBlock) : KeepB w w' := fun k o h1 h2 => by
  rw [hg.block k (block_lt h1) (fun e => ?_)]
  · exact h1
  · rcases hown.2 with ⟨rfl, _⟩ | ⟨g, cap, cur, fz, rfl, _, hg2, _⟩
    · simp [Value.ownBlock] at e
    · simp [Value.ownBlock] at e
      subst e
      rw [hg2] at h1
      cases h1
      exact (h2 _ _ _ rfl).2 rfl
theorem KeepB.others {w w' : World} (h : KeepB w w') (hs : w.heap.size ≤ w'.heap.size) : KeepsOthers w w' := ⟨hs, fun k o h1 h2 => h k o h1 (fun cs t fr e => by subst e; cases h2)⟩

theorem KeepB.cells {w w' : World} (h : KeepB w w') {k : Nat} {cs : Array Value} {t : TypeId} {fr : Nat × Nat} (hk : w.heap[k]? = some (.cells cs t fr)) (h1 : t ≠ 60) (h2 : t ≠ 5) : w'.heap[k]? = some (.cells cs t fr) := h k _ hk (fun _ _ _ e => by cases e; exact ⟨h1, h2⟩)

theorem infoBld : (Try.prog.info? 60).map (·.size) = some 2 := by kernel_rfl
theorem liesBld : liesAt Try.prog Try.prog.depth 60 (2 / Try.prog.cellsOf 60) 0 60 1 = true := by kernel_rfl

set_option maxHeartbeats 1000000 in
set_option maxRecDepth 100000 in
theorem bcheck_any {w : World} {B b : Nat} {l : List UInt8} (h : BuildT w B b l) :
    Calls Try.prog 52 #[.pointer (some ⟨b, 0, none⟩)] w fun e w' => e = .returned (.tuple #[]) ∧ (Lib.BuilderAtF 60 5 B b (.pointer (some ⟨b, 0, none⟩)) (Lib.byteCells l) w' ∧ Below B w w' ∧ KeepB w w') := by
  obtain ⟨j, hj, hjs⟩ := Option.map_eq_some_iff.1 infoBld
  rcases h with h | h
  · have h0 := h.cell0
    have hsh := h.shape
    have hfz := h.frozen0
    have HU := Lib.hid (h.used (.pointer (some ⟨b, 0, none⟩)))
    have HB := Lib.hid h.1
    have HK : Hid (KeepB w (w.setCell ⟨b, 0, none⟩ (.pointer (some ⟨b, 0, none⟩)))) := by
      obtain ⟨_, v, hbk, _⟩ := h
      exact KeepB.set hbk
    clear h
    go_enter Try.func52, Try.ntmps52
    go_wp2
    rw [Lib.run_to_unsafe w ⟨b, 0, none⟩ Try.underlying57 Try.underlying115 hj (by rw [hjs]; decide) hsh (Nat.zero_lt_succ 1)]
    simp only [Result.andThen]
    rw [Oper.upon_value]
    go_wp2
    rw [run_callFunc_extern Try.func75 (by kernel_rfl) (by kernel_rfl) (by kernel_rfl) (e := Extern.AbiNoEscape.same) (by kernel_rfl)]
    rw [Lib.run_noEscape]
    simp only [Result.andThen]
    rw [Oper.upon_value]
    go_wp2
    rw [Lib.run_from_unsafe w ⟨b, 0, none⟩ Try.underlying115 Try.underlying57 hj hsh liesBld]
    simp only [Result.andThen]
    rw [Oper.upon_value]
    go_wp2
    go_end0
    exact ⟨rfl, HU.out, (Below.refl B w).setCell (p := ⟨b, 0, none⟩) HB.out _, HK.out⟩
  · have h0 := h.cell0
    have HU := Lib.hid h
    clear h
    go_enter Try.func52, Try.ntmps52
    go_wp2
    rw [Lib.run_neq_ptr_same w _ Try.underlying57 hj]
    go_wp2
    go_end0
    exact ⟨rfl, HU.out, Below.refl B _, KeepB.refl _⟩

set_option maxHeartbeats 2000000 in
set_option maxRecDepth 100000 in
theorem bwrite_any {w : World} {B b : Nat} {l : List UInt8} (h : BuildT w B b l) (s : ByteArray) (hlen : l.length + s.size ≤ 140737488355328) (hBw : B ≤ w.heap.size) :
    Calls Try.prog 27 #[.pointer (some ⟨b, 0, none⟩), .string s] w fun e w' => e = .returned (.tuple #[.int .i64 s.size, .nilIface]) ∧ BuildT w' B b (l ++ s.data.toList) ∧ Below B w w' ∧ KeepB w w' := by
  obtain ⟨i0, hi, hz0, hz1, hz2⟩ := info_parts infoU8
  have hbl : (Lib.byteCells l).length = l.length := Lib.byteCells_length l
  go_enter Try.func27, Try.ntmps27
  go_wp2_with fail
  refine (bcheck_any h).mono ?_
  rintro e w1 ⟨rfl, h1, hb1, hk1⟩
  obtain ⟨hB, v, hbk, hown, hne⟩ := h1
  have c0 : w1.cell? ⟨b, 0, none⟩ = some (.pointer (some ⟨b, 0, none⟩)) := by rw [Lib.cell_of_heap hbk]; rfl
  have c1 : w1.cell? ⟨b, 1, none⟩ = some v := by rw [Lib.cell_of_heap hbk]; rfl
  go_wp2_with (at_builtin; go_loud (refine Lib.wpList_append_own_stringF _ rfl _ _ 58 9 rfl B 5 i0 Try.underlying58 Try.underlying9 hi hz0 hz1 hz2 _ _ _ rfl hown s rfl ?c3 ?c4 ?c5 ?_))
  case c3 => unfold maxLen; omega
  case c4 => omega
  case c5 => have := hb1.size; omega
  intro v' w2 hown' hgrow _
  have hlt : b < w1.heap.size := by
    rcases Nat.lt_or_ge b w1.heap.size with h' | h'
    · exact h'
    · simp [Array.getElem?_eq_none h'] at hbk
  have hb2 : w2.heap[b]? = some (.cells #[.pointer (some ⟨b, 0, none⟩), v] 60 (0, 0)) := by
    rw [hgrow.block b hlt (fun e => hne e.symm)]
    exact hbk
  have HK := Lib.hid ((hk1.trans (KeepB.grown hown hgrow)).trans (KeepB.set (j := 1) (v := v') hb2))
  have d0 : w2.cell? ⟨b, 0, none⟩ = some (.pointer (some ⟨b, 0, none⟩)) := by rw [Lib.cell_of_heap hb2]; rfl
  have d1 : w2.cell? ⟨b, 1, none⟩ = some v := by rw [Lib.cell_of_heap hb2]; rfl
  have f1 : w2.frozen? ⟨b, 1, none⟩ = false := Lib.frozen_of_heap hb2 1
  obtain ⟨ao, n', cap, rfl⟩ : ∃ ao n' cap, v' = .slice ao n' cap := by
    rcases hown'.2 with ⟨hv, _⟩ | ⟨g, cap, cur, fz, hv, _⟩
    · exact ⟨_, _, _, hv⟩
    · exact ⟨_, _, _, hv⟩
  go_wp2
  go_ret2
  refine ⟨rfl, .inr ?_, ?_, HK.out⟩
  · rw [Lib.byteCells_append]
    exact Lib.BuilderAtF.put (T := 60) (e := 5) hB hb2 (bs' := Lib.byteCells l ++ Lib.strCells s) (by simpa [Lib.strCells_length, hbl] using hown') (by decide)
  · exact (hb1.grown hgrow (by have := hb1.size; omega) (fun k hk => (hown.lt k hk).1)).setCell (p := ⟨b, 1, none⟩) hB _

theorem KeepB.of_others {w w' : World} {B b : Nat} {l : List UInt8} (hb : BuildT w B b l) (h : Lib.OthersKept 5 (some b) w w') : KeepB w w' := fun k o h1 h2 => by
  refine h k o h1 (fun e => ?_) (fun c fz e => (h2 c _ fz e).2 rfl)
  injection e with e
  subst e
  rcases hb with ⟨_, v, hbk, _⟩ | ⟨_, v, hbk, _⟩
  · rw [hbk] at h1
    injection h1 with h1
    exact (h2 _ _ _ h1.symm).1 rfl
  · rw [hbk] at h1
    injection h1 with h1
    exact (h2 _ _ _ h1.symm).1 rfl
theorem bstring_any {w : World} {B b : Nat} {l : List UInt8} (h : BuildT w B b l) (hBw : B ≤ w.heap.size) :
    Calls Try.prog 28 #[.pointer (some ⟨b, 0, none⟩)] w fun e w' => e = .returned (.string ⟨l.toArray⟩) ∧ Below B w w' ∧ KeepB w w' :=
  (Sh.Builder_String_any_k B b l w h hBw).mono (fun e w' k => ⟨k.1, k.2.2.1, KeepB.of_others h k.2.2.2⟩)
end Go.Proofs.Ytlakemcbfeogkaa

namespace Go.Proofs.Ytlakemcbfeogkaa
open Go.RowKit Go.Lib
set_option linter.unusedVariables false

theorem block_next {l : List PairS} {i : Nat} (h : i < l.length) : blockL (l.take (i + 1)) = blockL (l.take i) ++ pairL l[i] := by
  rw [List.take_succ_eq_append_getElem h, blockL_snoc]
theorem wrap_one (n : Nat) (h : n ≤ 8192) : (∀ m : Int, m = (n : Int) → IntKind.u64.wrap m = (n : Int)) ∧ (∀ m : Int, m = (n : Int) + 1 → IntKind.u64.wrap m = ((n + 1 : Nat) : Int)) := by
  refine ⟨?_, ?_⟩
  · rintro m rfl; rw [IntKind.wrap_u64]; omega
  · rintro m rfl; rw [IntKind.wrap_u64]; omega

set_option maxHeartbeats 2000000 in
set_option maxRecDepth 100000 in
theorem blockOf_any {w : World} {a : Option Addr} {c : Nat} {l : List PairS} (h : ReadP w (.slice a l.length c) l) (hf : FineP l) (h8 : l.length ≤ 8) :
    Calls Try.prog 26 #[.slice a l.length c] w fun e w' => e = .returned (.string ⟨(blockL l).toArray⟩) ∧ Below w.heap.size w w' := by
  have hB0 := BuildT.new w
  have hb0 : Below w.heap.size w (w.alloc (.cells #[.pointer none, .slice none 0 0] 60)) := (Below.refl _ w).alloc (Nat.le_refl _) _
  have H := Lib.hid h
  have HF := Lib.hid hf
  have HB0 := Lib.hid hB0
  have Hb0 := Lib.hid hb0
  clear h hf hB0 hb0
  go_enter Try.func26, Try.ntmps26
  go_wp2
  generalize w.alloc (.cells #[.pointer none, .slice none 0 0] 60) = w0 at *
  go_loopw [8] (fun iv wr => ∃ i : Nat, i ≤ l.length ∧ iv = .int .i64 (i : Int) ∧ Hid (BuildT wr w.heap.size w.heap.size (blockL (l.take i)) ∧ Below w.heap.size w wr)) (fun iv _ => l.length - (intOf iv).toNat)
  case atStart => exact ⟨0, Nat.zero_le _, rfl, HB0.out, Hb0.out⟩
  case round =>
    clear HB0 Hb0
    obtain ⟨i, hi, rfl, HR⟩ := hrel
    by_cases hlt : i < l.length
    · obtain ⟨b, o, rfl, q0, q1, q2⟩ := H.out.in HR.out.2 hlt
      have hxf := HF.out l[i] (List.getElem_mem hlt)
      have HN := Lib.hid (block_next hlt)
      have hz := block8_len (xs := l.take i) (fun x hx => HF.out x (List.mem_of_mem_take hx)) (by rw [List.length_take]; omega)
      have hmeas : l.length - (intOf (.int .i64 ((i : Int) + 1))).toNat < l.length - (intOf (.int .i64 (i : Int))).toNat := by simp [intOf]; omega
      generalize l[i] = X at *
      obtain ⟨k1, k2, v1, _⟩ := (fine_iff X).1 hxf
      obtain ⟨xk, xv, xg⟩ := X
      simp only at q0 q1 q2 k1 k2 v1
      clear hxf
      have hbt := HR.out.1.alloc (.cells #[.string xk, .string xv, .bool xg] 39)
      have hbb := HR.out.2.alloc HR.out.2.size (.cells #[.string xk, .string xv, .bool xg] 39)
      have hl1 := putL_len10 (small8 (n := xk.size) (by omega))
      have hl2 := putL_len10 (small8 (n := xv.size + 1) (by omega))
      have hl3 := putL_len10 (small8 (n := 0) (by omega))
      have hkl : xk.data.toList.length = xk.size := by simp
      have hvl : xv.data.toList.length = xv.size := by simp
      have hT := fun w => text_any xk (by omega) w
      have hI := fun w => put_any (xv.size + 1) (small8 (by omega)) w
      have hI0 := fun w => put_any 0 (small8 (by omega)) w
      obtain ⟨T, eT⟩ : ∃ T : ByteArray, (⟨(putL xk.size ++ xk.data.toList).toArray⟩ : ByteArray) = T := ⟨_, rfl⟩
      obtain ⟨I, eI⟩ : ∃ I : ByteArray, (⟨(putL (xv.size + 1)).toArray⟩ : ByteArray) = I := ⟨_, rfl⟩
      obtain ⟨I0, eI0⟩ : ∃ I : ByteArray, (⟨(putL 0).toArray⟩ : ByteArray) = I := ⟨_, rfl⟩
      have dT : T.data.toList = putL xk.size ++ xk.data.toList := by rw [← eT]
      have dI : I.data.toList = putL (xv.size + 1) := by rw [← eI]
      have dI0 : I0.data.toList = putL 0 := by rw [← eI0]
      have zT : T.size ≤ 74 := by rw [← eT, tx_size, List.length_append]; omega
      have zI : I.size ≤ 10 := by rw [← eI, tx_size]; exact hl2
      have zI0 : I0.size ≤ 10 := by rw [← eI0, tx_size]; exact hl3
      have HX : Hid (pairL ⟨xk, xv, true⟩ = T.data.toList ++ I0.data.toList ∧ pairL ⟨xk, xv, false⟩ = T.data.toList ++ I.data.toList ++ xv.data.toList) := by
        constructor
        · rw [pair_gone, dT, dI0]
        · rw [pair_there, dT, dI]
      simp only [eT] at hT
      simp only [eI] at hI
      simp only [eI0] at hI0
      obtain ⟨wr1, wr2⟩ := wrap_one xv.size v1
      have lT : T.data.toList.length = T.size := by simp
      have lI : I.data.toList.length = I.size := by simp
      have lI0 : I0.data.toList.length = I0.size := by simp
      have hnew := heap_alloc_new wr (.cells #[.string xk, .string xv, .bool xg] 39)
      have hsz : (wr.alloc (.cells #[.string xk, .string xv, .bool xg] 39)).heap.size = wr.heap.size + 1 := by simp
      have hs := HR.out.2.size
      -- the pair's box stays
      have SB : Hid (∀ w', KeepB (wr.alloc (.cells #[.string xk, .string xv, .bool xg] 39)) w' → w'.cell? ⟨wr.heap.size, 0, none⟩ = some (.string xk) ∧ w'.cell? ⟨wr.heap.size, 1, none⟩ = some (.string xv) ∧ w'.cell? ⟨wr.heap.size, 2, none⟩ = some (.bool xg)) := fun w' t => by
        have hh := t.cells hnew (by decide) (by decide)
        exact ⟨by rw [block_cell hh]; rfl, by rw [block_cell hh]; rfl, by rw [block_cell hh]; rfl⟩
      have HBT := Lib.hid hbt
      have HBB := Lib.hid hbb
      have HSZ := Lib.hid hsz
      clear eT eI eI0 hl1 hl2 hl3 hkl hnew HR hbt hbb dT dI dI0
      go_wp2_with fail
      clear q0 q1 q2
      generalize wr.alloc (.cells #[.string xk, .string xv, .bool xg] 39) = w1 at *
      generalize wr.heap.size = pb at *
      refine (hT _).mono ?_
      rintro e w2 ⟨rfl, b2⟩
      have S2 := Lib.hid (KeepB.of_below b2)
      have T2 := Lib.hid (HBT.out.kept2 b2)
      have B2 := Lib.hid (HBB.out.trans (b2.mono HBB.out.size))
      clear b2 HBT
      go_wp2_with fail
      refine (bwrite_any T2.out T (by omega) B2.out.size).mono ?_
      rintro e w3 ⟨rfl, t3, b3, k3⟩
      have S3 := Lib.hid (S2.out.trans k3)
      have T3 := Lib.hid t3
      have B3 := Lib.hid (B2.out.trans b3)
      obtain ⟨c0, c1, c2⟩ := SB.out _ S3.out
      clear t3 b3 k3 T2 B2 S2
      cases xg with
      | true =>
        go_wp2_with fail
        refine (hI0 _).mono ?_
        rintro e w4 ⟨rfl, b4⟩
        have T4 := Lib.hid (T3.out.kept2 b4)
        have B4 := Lib.hid (B3.out.trans (b4.mono B3.out.size))
        clear b4
        go_wp2_with fail
        refine (bwrite_any T4.out I0 (by rw [List.length_append]; omega) B4.out.size).mono ?_
        rintro e w5 ⟨rfl, t5, b5, k5⟩
        have T5 := Lib.hid t5
        have B5 := Lib.hid (B4.out.trans b5)
        clear t5 b5 k5
        go_wp2
        go_roundw
        case rel => exact ⟨i + 1, by omega, by go_num, by rw [HN.out, HX.out.1, ← List.append_assoc]; exact T5.out, B5.out⟩
        case measure => exact hmeas
      | false =>
        go_wp2_with fail
        refine (hI _).mono ?_
        rintro e w4 ⟨rfl, b4⟩
        have T4 := Lib.hid (T3.out.kept2 b4)
        have B4 := Lib.hid (B3.out.trans (b4.mono B3.out.size))
        have S4 := Lib.hid (S3.out.trans (KeepB.of_below b4))
        clear b4
        go_wp2_with fail
        refine (bwrite_any T4.out I (by rw [List.length_append]; omega) B4.out.size).mono ?_
        rintro e w5 ⟨rfl, t5, b5, k5⟩
        have T5 := Lib.hid t5
        have B5 := Lib.hid (B4.out.trans b5)
        have S5 := Lib.hid (S4.out.trans k5)
        obtain ⟨d0, d1, d2⟩ := SB.out _ S5.out
        clear t5 b5 k5
        go_wp2_with fail
        refine (bwrite_any T5.out xv (by rw [List.length_append, List.length_append]; omega) B5.out.size).mono ?_
        rintro e w6 ⟨rfl, t6, b6, k6⟩
        have T6 := Lib.hid t6
        have B6 := Lib.hid (B5.out.trans b6)
        clear t6 b6 k6
        go_wp2
        go_roundw
        case rel => exact ⟨i + 1, by omega, by go_num, by rw [HN.out, HX.out.2, ← List.append_assoc, ← List.append_assoc]; exact T6.out, B6.out⟩
        case measure => exact hmeas
    · obtain rfl : i = l.length := by omega
      rw [List.take_length] at HR
      have hs := HR.out.2.size
      go_wp2_with fail
      refine (bstring_any HR.out.1 hs).mono ?_
      rintro e w5 ⟨rfl, b5, -⟩
      have HB5 := Lib.hid (HR.out.2.trans b5)
      clear b5
      go_wp2
      go_ret
      exact ⟨rfl, HB5.out⟩
end Go.Proofs.Ytlakemcbfeogkaa

namespace Go.Proofs.Ytlakemcbfeogkaa
open Go.RowKit Go.Shelf Go.Maps Go.WideMaps
set_option linter.unusedVariables false

attribute [local go_sem] Oper.semAt_some

/-- The number of a chunk. -/
abbrev Ch (n : Nat) := { i : Nat // 8 * i < n }
theorem ch_lt {n : Nat} : ∀ i ∈ List.range (partsN n), 8 * i < n := fun i hi => by
  have := List.mem_range.1 hi
  unfold partsN at this
  omega
def chunks (n : Nat) : List (Ch n) := (List.range (partsN n)).pmap (fun i h => ⟨i, h⟩) ch_lt
theorem chunks_len (n : Nat) : (chunks n).length = partsN n := by simp [chunks]
theorem chunks_map {α : Type} (n : Nat) (f : Nat → α) : (chunks n).map (fun x => f x.1) = (List.range (partsN n)).map f := by
  unfold chunks
  rw [List.map_pmap]
  exact List.pmap_eq_map ..
theorem chunks_next {n k : Nat} (h : 8 * k < n) : (chunks n).take (k + 1) = (chunks n).take k ++ [⟨k, h⟩] := by
  have hk : k < (chunks n).length := by rw [chunks_len]; unfold partsN; omega
  rw [List.take_succ_eq_append_getElem hk]
  congr 2
  simp [chunks]
theorem chunks_all {n k : Nat} (h : n ≤ 8 * k) : (chunks n).take k = chunks n := List.take_of_length_le (by rw [chunks_len]; unfold partsN; omega)
/-- The slice of a chunk. -/
def chunkV (b o n i : Nat) : Value := .slice (some ⟨b, o + 8 * i * 3, none⟩) (min 8 (n - 8 * i)) (min 8 (n - 8 * i))
theorem chunk_read {W : World} {b o c : Nat} {l : List PairS} (h : ReadP W (.slice (some ⟨b, o, none⟩) l.length c) l) (x : Ch l.length) : ReadP W (chunkV b o l.length x.1) (partP l x.1) := by
  obtain ⟨hm, a', c', hv, h1⟩ := h
  injection hv with e1 e2 e3
  subst e1
  have hx := x.2
  rcases h1 with h1 | ⟨b', o', e, h1⟩
  · have hz : l.length = 0 := by rw [h1]; rfl
    exact absurd hx (by omega)
  · injection e with e
    injection e with e1 e2
    subst e1
    subst e2
    have hl : (partP l x.1).length = min 8 (l.length - 8 * x.1) := partP_len l x.1
    refine ⟨by omega, _, _, by unfold chunkV; rw [hl], .inr ⟨_, _, rfl, fun i hi => ?_⟩⟩
    obtain ⟨hlt, e⟩ := part_at hi
    obtain ⟨q0, q1, q2⟩ := h1 _ hlt
    rw [e]
    rw [show o + 8 * x.1 * 3 + i * 3 = o + (8 * x.1 + i) * 3 by omega]
    exact ⟨q0, q1, q2⟩
/-- The boxes that a sequence of chunks reads. -/
def ChunkG (sb nb : Nat) (i : Nat) : Prop := i = sb ∨ i = nb
def GivesC (m : Nat) (g : Nat) (lb : Array Value) (G : Nat → Prop) (b o n : Nat) (w : World) : Prop :=
  SeqStopsK Fence.wide m Try.prog g lb (fun x : Ch n => #[chunkV b o n x.1]) (Keeps G) (fun xs => xs = chunks n) (fun pre => pre <+: chunks n) (partsN n) w

theorem chunk_tail (b o n c k : Nat) (hk : 8 * k < n) (hc : n ≤ c) (wx : World) : (Instr.slice 22 (.slice (some ⟨b, o, none⟩) n c) (some (.int .i64 (8 * (k : Int)))) none none).run Try.prog wx = .ok (.slice (some ⟨b, o + 8 * k * 3, none⟩) (n - 8 * k) (c - 8 * k)) wx := by
  have := run_slice_l (P := Try.prog) (w := wx) 22 (some ⟨b, o, none⟩) n c slPair .i64 (8 * (k : Int)) (by omega) (by omega)
  rw [szPair] at this
  rw [this]
  show Result.ok (sliced (some ⟨b, o, none⟩) ((8 * (k : Int)).toNat) n c 3) wx = _
  unfold sliced
  have e : (8 * (k : Int)).toNat = 8 * k := by omega
  rw [e, if_neg (by omega), Option.map_some, Addr.add_lit]
theorem chunk_cut (b o n c k : Nat) (hk : 8 * k < n) (hc : n ≤ c) (m : Int) (hm : m = 8 * (k : Int) + (min 8 (n - 8 * k) : Nat)) (wx : World) : (Instr.slice 22 (.slice (some ⟨b, o, none⟩) n c) (some (.int .i64 (8 * (k : Int)))) (some (.int .i64 m)) (some (.int .i64 m))).run Try.prog wx = .ok (chunkV b o n k) wx := by
  have := run_slice_lhm (P := Try.prog) (w := wx) 22 (some ⟨b, o, none⟩) n c slPair .i64 .i64 .i64 (8 * (k : Int)) m m (by omega) (by omega) (by omega) (by omega)
  rw [szPair] at this
  rw [this]
  show Result.ok (sliced (some ⟨b, o, none⟩) ((8 * (k : Int)).toNat) m.toNat m.toNat 3) wx = _
  unfold sliced chunkV
  have e : (8 * (k : Int)).toNat = 8 * k := by omega
  have e2 : m.toNat = 8 * k + min 8 (n - 8 * k) := by omega
  rw [e, e2, if_neg (by omega)]
  rw [show 8 * k + min 8 (n - 8 * k) - 8 * k = min 8 (n - 8 * k) by omega, Option.map_some, Addr.add_lit]
theorem chunk_min (n k : Nat) (hk : 8 * k < n) : min (8 : Int) ((n - 8 * k : Nat) : Int) = ((min 8 (n - 8 * k) : Nat) : Int) := by omega

set_option maxRecDepth 100000 in
set_option maxHeartbeats 4000000 in
theorem chunk_in (m : Nat) (hm : 1 ≤ m) (y sb nb b o n c : Nat) (J Jx : List (Ch n) → World → Prop) (W : World)
    (hJ : AbidesFrom W.heap.size J)
    (hY : ∀ pre x W1, J pre W1 → pre.length < partsN n → YieldAt Fence.wide (m - 1) Try.prog y #[chunkV b o n x.1] W1 fun e W' => (e = .returned (.bool true) ∧ J (pre ++ [x]) W' ∧ Keeps (ChunkG sb nb) W1 W') ∨ (e = .returned (.bool false) ∧ Jx (pre ++ [x]) W'))
    (hv : W.heap[sb]? = some (.cells #[.slice (some ⟨b, o, none⟩) n c] 22 (0, 0))) (hn : W.heap[nb]? = some (.cells #[.int .i64 8] 3 (0, 0))) (hc : n ≤ c) (hmx : n ≤ 9223372036854775000) (h0 : J [] W) :
    CallsIn Fence.wide m Try.prog 51 #[.func (.yield y) #[] #[], .pointer (some ⟨sb, 0, none⟩), .pointer (some ⟨nb, 0, none⟩)] W fun e W' => (∃ v, e = .returned v) ∧ ((∃ xs, xs = chunks n ∧ J xs W') ∨ (∃ pre, pre <+: chunks n ∧ Jx pre W')) := by
  have HV0 : Hid (W.heap[sb]? = some (.cells #[.slice (some ⟨b, o, none⟩) n c] 22 (0, 0)) ∧ W.heap[nb]? = some (.cells #[.int .i64 8] 3 (0, 0))) := ⟨hv, hn⟩
  have HJ0 : Hid (J [] W) := h0
  clear h0 hv hn
  refine callsIn_of_wp Try.func51 rfl trivial ?_ rfl
  simp only [Try.ntmps51, List.size_toArray, List.length_cons, List.length_nil, Nat.reduceAdd, Nat.reduceSub, Array.replicate_succ, Array.replicate_zero, List.push_toArray, List.append_toArray, List.nil_append, List.cons_append]
  gi_wp2
  gi_loopw [4] (fun iv wr => ∃ k : Nat, 8 * k ≤ n + 7 ∧ iv = .int .i64 (8 * (k : Int)) ∧ Hid (wr.heap[sb]? = some (.cells #[.slice (some ⟨b, o, none⟩) n c] 22 (0, 0)) ∧ wr.heap[nb]? = some (.cells #[.int .i64 8] 3 (0, 0))) ∧ Hid (J ((chunks n).take k) wr)) (fun iv _ => n + 8 - (intOf iv).toNat)
  case atStart => exact ⟨0, by omega, rfl, HV0, HJ0⟩
  case round =>
    obtain ⟨k, hk, rfl, HR, hj⟩ := hrel
    clear HV0 HJ0
    have s0 : wr.cell? ⟨sb, 0, none⟩ = some (.slice (some ⟨b, o, none⟩) n c) := by rw [block_cell HR.out.1]; rfl
    have n0 : wr.cell? ⟨nb, 0, none⟩ = some (.int .i64 8) := by rw [block_cell HR.out.2]; rfl
    by_cases hlt : 8 * k < n
    · have d0 : wr.drew.cell? ⟨sb, 0, none⟩ = some (.slice (some ⟨b, o, none⟩) n c) := s0
      have d1 : wr.drew.cell? ⟨nb, 0, none⟩ = some (.int .i64 8) := n0
      have hbl : Below wr.heap.size wr wr.drew := Below.drew (Below.refl _ _)
      have hj1 : J ((chunks n).take k) wr.drew := hJ _ _ _ none hj.out (grown_of8 hbl none) (fun r e => by cases e)
      have hyy := hY ((chunks n).take k) ⟨k, hlt⟩ _ hj1 (by rw [List.length_take, chunks_len]; unfold partsN; omega)
      rw [← chunks_next hlt] at hyy
      have HPX : Hid ((chunks n).take (k + 1) <+: chunks n) := List.take_prefix _ _
      have ht := chunk_tail b o n c k hlt hc
      have hmn := chunk_min n k hlt
      have hcc := chunk_cut b o n c k hlt hc _ rfl
      obtain ⟨e, he⟩ : ∃ e : Nat, min 8 (n - 8 * k) = e := ⟨_, rfl⟩
      have he8 : e ≤ 8 := by omega
      rw [he] at hcc hmn
      have he1 : 0 < e := by omega
      have hmes : n + 8 - (intOf (.int .i64 (8 * (k : Int) + 8))).toNat < n + 8 - (intOf (.int .i64 (8 * (k : Int)))).toNat := by simp [intOf]; omega
      clear hj1 hbl
      obtain ⟨fn, tmps, assign, body, hy, hRR⟩ := hyy
      gi_wp2
      gi_region
      gi_wp2
      refine hRR.mono ?_
      rintro e W3 (⟨rfl, hJ3, hk3⟩ | ⟨rfl, hJx3⟩)
      · have HR3 : Hid (W3.heap[sb]? = some (.cells #[.slice (some ⟨b, o, none⟩) n c] 22 (0, 0)) ∧ W3.heap[nb]? = some (.cells #[.int .i64 8] 3 (0, 0))) := ⟨(hk3 sb (.inl rfl)).trans HR.out.1, (hk3 nb (.inr rfl)).trans HR.out.2⟩
        have HJ3 : Hid (J ((chunks n).take (k + 1)) W3) := hJ3
        have e1 : W3.cell? ⟨nb, 0, none⟩ = some (.int .i64 8) := by rw [block_cell HR3.out.2]; rfl
        clear hJ3 hk3
        gi_wp2
        exact ⟨⟨k + 1, by omega, by go_num, HR3, HJ3⟩, hmes⟩
      · gi_wp2
        refine bodyPost_ret (results_none rfl _ _ _) rfl ?_
        exact ⟨⟨_, rfl⟩, .inr ⟨_, HPX.out, hJx3⟩⟩
    · have hal := chunks_all (n := n) (k := k) (by omega)
      rw [hal] at hj
      gi_wp2
      go_end0
      exact ⟨⟨_, rfl⟩, .inl ⟨_, rfl, hj.out⟩⟩
end Go.Proofs.Ytlakemcbfeogkaa

namespace Go.Proofs.Ytlakemcbfeogkaa
open Go.RowKit Go.Shelf Go.Maps Go.WideMaps
set_option linter.unusedVariables false

set_option maxRecDepth 100000 in
set_option maxHeartbeats 1000000 in
theorem chunk_any {w : World} {b o n c : Nat} (hc : n ≤ c) (hmx : n ≤ 9223372036854775000) :
    Calls Try.prog 25 #[.slice (some ⟨b, o, none⟩) n c, .int .i64 8] w fun e w' => ∃ g lb, e = .returned (.func (.func g) #[] lb) ∧ (∀ args w, (callFunc g args).run Try.prog w = .ok (.enter g args) w) ∧
      (∀ m, 1 ≤ m → ∀ w'', Keeps (ChunkG w.heap.size (w.heap.size + 1)) w' w'' → w'.heap.size ≤ w''.heap.size → GivesC m g lb (ChunkG w.heap.size (w.heap.size + 1)) b o n w'') ∧ w'.heap.size = w.heap.size + 2 ∧ Below w.heap.size w w' ∧ w'.heap[w.heap.size]? = some (.cells #[.slice (some ⟨b, o, none⟩) n c] 22 (0, 0)) ∧ w'.heap[w.heap.size + 1]? = some (.cells #[.int .i64 8] 3 (0, 0)) := by
  have hmf : ∀ (fn : Fn) (first cap : Array Value) (w : World), (Instr.makeFunc fn first cap).run Try.prog w = .ok (.func fn first cap) w := fun _ _ _ _ => rfl
  obtain ⟨W0, hW0⟩ : ∃ W0, (w.alloc (.cells #[.slice (some ⟨b, o, none⟩) n c] 22)).alloc (.cells #[.int .i64 8] 3) = W0 := ⟨_, rfl⟩
  have hs0 : W0.heap.size = w.heap.size + 2 := by rw [← hW0]; simp
  have hb1 : Below (w.alloc (.cells #[.slice (some ⟨b, o, none⟩) n c] 22)).heap.size (w.alloc (.cells #[.slice (some ⟨b, o, none⟩) n c] 22)) W0 := by rw [← hW0]; exact (Below.refl _ _).alloc (Nat.le_refl _) _
  have hb0 : Below w.heap.size w W0 := ((Below.refl _ w).alloc (Nat.le_refl _) _).trans (hb1.mono (by simp))
  have k0 : W0.heap[w.heap.size]? = some (.cells #[.slice (some ⟨b, o, none⟩) n c] 22 (0, 0)) := (hb1.block _ (by simp)).trans (heap_alloc_new _ _)
  have k1 : W0.heap[w.heap.size + 1]? = some (.cells #[.int .i64 8] 3 (0, 0)) := by
    have := heap_alloc_new (w.alloc (.cells #[.slice (some ⟨b, o, none⟩) n c] 22)) (.cells #[.int .i64 8] 3)
    rw [hW0, World.size_alloc] at this
    exact this
  have key : ∀ m, 1 ≤ m → ∀ w'', Keeps (ChunkG w.heap.size (w.heap.size + 1)) W0 w'' → W0.heap.size ≤ w''.heap.size → GivesC m 51 #[.pointer (some ⟨w.heap.size, 0, none⟩), .pointer (some ⟨w.heap.size + 1, 0, none⟩)] (ChunkG w.heap.size (w.heap.size + 1)) b o n w'' := by
    intro m hm w'' hw hs y J Jx W hW hJ hJx hY h0
    have q0 := (hw w.heap.size (.inl rfl)).trans k0
    have q1 := (hw (w.heap.size + 1) (.inr rfl)).trans k1
    exact chunk_in m hm y w.heap.size (w.heap.size + 1) b o n c J Jx W hJ hY ((hW.block w.heap.size (by omega)).trans q0) ((hW.block (w.heap.size + 1) (by omega)).trans q1) hc hmx h0
  have n0 : W0.cell? ⟨w.heap.size + 1, 0, none⟩ = some (.int .i64 8) := by rw [block_cell k1]; rfl
  have HK := Lib.hid key
  have HB := Lib.hid hb0
  have HS := Lib.hid hs0
  have HK0 := Lib.hid k0
  have HK1 := Lib.hid k1
  clear key hb0 hs0 hb1 k0 k1
  go_enter Try.func25, Try.ntmps25
  go_wp2
  go_ret
  exact ⟨_, _, rfl, enters_of Try.func51 (by kernel_rfl) rfl, HK.out, HS.out, HB.out, HK0.out, HK1.out⟩

theorem own_cells {α : Type} (k D : Nat) (f : α → Obj) (hf : ∀ s, (f s).isCells = true) : OwnFrom D (fun s W => W.heap[k]? = some (f s)) := fun s W W' row hs hg hr => by
  have hs : W.heap[k]? = some (f s) := hs
  show W'.heap[k]? = some (f s)
  rw [hg.block k (block_lt hs) (fun e => ?_)]
  · exact hs
  · obtain ⟨_, o, h1, h2⟩ := hr k e.symm
    rw [hs] at h1
    injection h1 with h1
    rw [← h1, hf] at h2
    cases h2

theorem range_chunk {m : Nat} {g : Operand} {pa : Array Tmp} {assign body : Code} {Q : Exit → Act → World → Prop} {a : Act} {w w0 : World} (sx sb : Nat) (h1 : 1 ≤ m) {gf : Nat} {lb : Array Value} {G : Nat → Prop} {b o n : Nat}
    (hg : a.eval g = .func (.func gf) #[] lb) (eg : ∀ args w, (callFunc gf args).run Try.prog w = .ok (.enter gf args) w)
    (hseq : GivesC (m - 1) gf lb G b o n w0) (hb0 : Below w0.heap.size w0 w) (hG : ∀ k, G k → k < w.heap.size) (hpa : pa.size = 1)
    (I : List (Ch n) → World → Prop) (hI : OwnFrom w.heap.size I) (h0 : I [] w)
    (hassign : ∀ (l : Nat) (x : Ch n) (W : World) (K : Act → World → Prop), K { tmps := (a.tmps.setIfInBounds sx (chunkV b o n x.1)).setIfInBounds sb (chunkV b o n x.1), defers := [] } W →
      assign.wpIn (Fence.wide.inRound l) (m - 1 - 1) Try.prog (Exit.then K (fun _ _ _ => False)) { tmps := (pa.zip #[chunkV b o n x.1]).foldl (fun t (p, v) => t.setIfInBounds p v) a.tmps, defers := [] } W)
    (hbody : ∀ (l : Nat) (pre : List (Ch n)) (x : Ch n) (W : World), I pre W → pre.length < partsN n →
      body.wpIn (Fence.wide.inRound l) (m - 1 - 1) Try.prog (ownPostG w.heap.size (Keeps G) I (fun _ _ _ => False) (pre ++ [x]) W) { tmps := (a.tmps.setIfInBounds sx (chunkV b o n x.1)).setIfInBounds sb (chunkV b o n x.1), defers := [] } W)
    (hend : ∀ (D : Nat) (W : World), w.heap.size ≤ D → I (chunks n) W → W.heap[D]? = some (.deferred (some [])) → Q .normal { a with defers := { target := .collected D, args := #[] } :: a.defers } W) :
    (Code.rangeFunc g pa assign body).wp Try.prog Q a w := by
  refine (wpIn_wide (n := m)).1 ?_
  refine wpIn_rangeFunc_ownH rfl h1 (gf := gf) (lb := lb) hg trivial eg hseq (fun {A B C} => Keeps.trans) (fun W l o o' hl => Keeps.put hG W l o o' (by omega)) hb0 (fun _ => hpa.symm) I (fun _ _ _ => False) hI (fun _ _ _ _ _ hs _ _ => hs) h0
    (fun x a' W => a' = { tmps := (a.tmps.setIfInBounds sx (chunkV b o n x.1)).setIfInBounds sb (chunkV b o n x.1), defers := [] }) ?hAx ?assign ?body ?done ?stop
  case hAx =>
    rintro x a' _ W W' row h hg hr
    exact h
  case assign =>
    intro l pre x W K hi hK
    exact hassign l x W _ (hK _ _ (KeepsFrom.refl _ _) (Keeps.refl _ _) hi rfl)
  case body =>
    rintro l pre x a' W hl hr hi rfl hlt
    exact hbody l pre x W hi hlt
  case done =>
    rintro D xs W hD rfl hi hK
    exact hend D W hD hi hK
  case stop =>
    rintro D c pre W _ _ h _
    exact h.elim
end Go.Proofs.Ytlakemcbfeogkaa

namespace Go.Proofs.Ytlakemcbfeogkaa
open Go.RowKit Go.Shelf Go.Maps Go.WideMaps
set_option linter.unusedVariables false

attribute [local go_sem] Oper.semAt_some

/-- What a footer has before its filter. -/
def headL (l : List PairS) : List UInt8 := putL (partsN l.length) ++ (enct (firstsK l (partsN l.length)) ++ putL l.length)
theorem foot_head (l : List PairS) (flt : List UInt8) : footL l flt = headL l ++ (putL flt.length ++ flt) := by
  unfold footL headL
  simp only [List.append_assoc]
/-- The first keys of some chunks. -/
def firstsC (l : List PairS) (pre : List (Ch l.length)) : List UInt8 := enct (pre.map fun x => firstAt l x.1)
theorem firstsC_snoc (l : List PairS) (pre : List (Ch l.length)) (x : Ch l.length) : firstsC l (pre ++ [x]) = firstsC l pre ++ (putL (firstAt l x.1).size ++ (firstAt l x.1).data.toList) := by
  unfold firstsC
  rw [List.map_append]
  exact enct_snoc _ _
theorem firstsC_all (l : List PairS) : firstsC l (chunks l.length) = enct (firstsK l (partsN l.length)) := by
  unfold firstsC firstsK
  rw [chunks_map l.length (firstAt l)]
theorem firstsC_len {l : List PairS} (h : FineP l) (pre : List (Ch l.length)) : (firstsC l pre).length ≤ 80 * pre.length := by
  induction pre with
  | nil => simp [firstsC, enct]
  | cons x r ih =>
    have e : firstsC l (x :: r) = (putL (firstAt l x.1).size ++ (firstAt l x.1).data.toList) ++ firstsC l r := by simp [firstsC, enct]
    have h1 := firstAt_size h x.1
    have h2 := putL_len10 (small8 (n := (firstAt l x.1).size) (by omega))
    have h3 : (firstAt l x.1).data.toList.length = (firstAt l x.1).size := by simp
    rw [e, List.length_append, List.length_append, List.length_cons]
    omega
theorem chunk_first {W : World} {b o c : Nat} {l : List PairS} (h : ReadP W (.slice (some ⟨b, o, none⟩) l.length c) l) (x : Ch l.length) : W.cell? ⟨b, o + 8 * x.1 * 3, none⟩ = some (.string (firstAt l x.1)) := by
  obtain ⟨hm, a', c', hv, h1⟩ := h
  injection hv with e1 e2 e3
  subst e1
  have hx := x.2
  rcases h1 with h1 | ⟨b', o', e, h1⟩
  · have hz : l.length = 0 := by rw [h1]; rfl
    exact absurd hx (by omega)
  · injection e with e
    injection e with e1 e2
    subst e1
    subst e2
    have := (h1 _ hx).1
    rw [show o + 8 * x.1 * 3 = o + (8 * x.1) * 3 by omega, this]
    unfold firstAt
    simp [List.getD, hx]

set_option maxHeartbeats 4000000 in
set_option maxRecDepth 100000 in
theorem head_any {w : World} {b o c : Nat} {l : List PairS} (h : ReadP w (.slice (some ⟨b, o, none⟩) l.length c) l) (hf : FineP l) (hc : l.length ≤ c) (hN : l.length ≤ 3518437208780) (h1 : 1 ≤ l.length) :
    Calls Try.prog 22 #[.slice (some ⟨b, o, none⟩) l.length c] w fun e w' => e = .returned (.string ⟨(headL l).toArray⟩) ∧ Below w.heap.size w w' := by
  refine (callsIn_wide (n := 6)).1 ?_
  refine callsIn_of_wp_marks Try.func22 rfl trivial ?_ rfl
  simp only [Try.ntmps22, List.size_toArray, List.length_cons, List.length_nil, Nat.reduceAdd, Nat.reduceSub, Array.replicate_succ, Array.replicate_zero, List.push_toArray, List.append_toArray, List.nil_append, List.cons_append]
  refine wpIn_wide.2 ?_
  obtain ⟨W0, hW0⟩ : ∃ W0, (w.alloc (.cells #[.int .i64 0] 3)).alloc (.cells #[.pointer none, .slice none 0 0] 60) = W0 := ⟨_, rfl⟩
  have hs0 : W0.heap.size = w.heap.size + 2 := by rw [← hW0]; simp
  have hb1 : Below (w.alloc (.cells #[.int .i64 0] 3)).heap.size (w.alloc (.cells #[.int .i64 0] 3)) W0 := by rw [← hW0]; exact (Below.refl _ _).alloc (Nat.le_refl _) _
  have hb0 : Below w.heap.size w W0 := ((Below.refl _ w).alloc (Nat.le_refl _) _).trans (hb1.mono (by simp))
  have k0 : W0.heap[w.heap.size]? = some (.cells #[.int .i64 0] 3 (0, 0)) := (hb1.block _ (by simp)).trans (heap_alloc_new _ _)
  have k1 : BuildT W0 (w.heap.size + 1) (w.heap.size + 1) [] := by
    have := BuildT.new (w.alloc (.cells #[.int .i64 0] 3))
    rw [hW0, World.size_alloc] at this
    exact this
  have HB0 := Lib.hid hb0
  have HK0 := Lib.hid k0
  have HK1 := Lib.hid k1
  have HW : Hid (∀ w', Below w.heap.size w w' → ReadP w' (.slice (some ⟨b, o, none⟩) l.length c) l) := fun w' hb => h.below hb
  have hbw : b < w.heap.size := by
    obtain ⟨b', o', e, q, _⟩ := h.at (show 0 < l.length from h1)
    injection e with e
    injection e with e1 _
    subst e1
    exact World.block_lt_of_cell? w ⟨_, _, none⟩ q
  clear hb0 k0 k1 h hb1
  go_wp2_with fail
  refine (chunk_any hc (by omega)).mono ?_
  rintro e wA ⟨g, lb, rfl, eg, hgi, hsA, bA, g0, g1⟩
  have hseq := hgi 5 (by omega) wA (Keeps.refl _ _) (Nat.le_refl _)
  have HA0 := Lib.hid ((bA.block _ (block_lt HK0.out)).trans HK0.out)
  have HA1 := Lib.hid (HK1.out.kept2 bA)
  have HBA := Lib.hid (HB0.out.trans (bA.mono (by omega)))
  have HG0 := Lib.hid g0
  have HG1 := Lib.hid g1
  have HG : ∀ k, ChunkG W0.heap.size (W0.heap.size + 1) k → k < wA.heap.size := fun k hk => by unfold ChunkG at hk; omega
  clear hgi g0 g1 bA HB0 HK0 HK1
  go_wp2_with fail
  refine range_chunk (m := 6) 8 5 (by omega) rfl eg hseq (Below.refl _ _) HG rfl
    (fun pre W => W.heap[w.heap.size]? = some (.cells #[.int .i64 (pre.length : Nat)] 3 (0, 0)) ∧ BuildT W (w.heap.size + 1) (w.heap.size + 1) (firstsC l pre) ∧ W.heap[W0.heap.size]? = some (.cells #[.slice (some ⟨b, o, none⟩) l.length c] 22 (0, 0)) ∧ W.heap[W0.heap.size + 1]? = some (.cells #[.int .i64 8] 3 (0, 0)) ∧ Below w.heap.size w W)
    (OwnFrom.and (own_cells _ _ (fun (pre : List (Ch l.length)) => Obj.cells #[.int .i64 (pre.length : Nat)] 3 (0, 0)) (fun _ => rfl)) (OwnFrom.and (BuildT.ownFrom _ _ _ (firstsC l)) (OwnFrom.and (own_cells _ _ (fun _ => _) (fun _ => rfl)) (OwnFrom.and (own_cells _ _ (fun _ => _) (fun _ => rfl)) (ownFrom_below (Nat.le_refl _) (by omega))))))
    ⟨HA0.out, HA1.out, HG0.out, HG1.out, HBA.out⟩
    ?assign ?body ?rest
  case assign =>
    intro l' x W K hK
    unfold chunkV at *
    gi_wp2
    exact hK
  case body =>
    rintro l' pre x W ⟨c0, t0, g0, g1, hB⟩ hlt
    have hpl : pre.length ≤ 439804651099 := by unfold partsN at hlt; omega
    have hbW : b ≠ w.heap.size := by omega
    have d0 : W.cell? ⟨w.heap.size, 0, none⟩ = some (.int .i64 (pre.length : Nat)) := by rw [block_cell c0]; rfl
    have f0 : W.frozen? ⟨w.heap.size, 0, none⟩ = false := block_free c0 0
    have q0 := chunk_first (HW.out W hB) x
    have hx := x.2
    have hfs := firstAt_size hf x.1
    have HSN := Lib.hid (firstsC_snoc l pre x)
    have hfl := firstsC_len hf pre
    unfold chunkV
    obtain ⟨e, he⟩ : ∃ e : Nat, min 8 (l.length - 8 * x.1) = e := ⟨_, rfl⟩
    have he1 : 0 < e := by omega
    rw [he]
    generalize firstAt l x.1 = K at *
    generalize o + 8 * x.1 * 3 = o1 at *
    have hT := fun w => text_any K (by omega) w
    have hzT : (putL K.size ++ K.data.toList).length ≤ 74 := by
      have h2 := putL_len10 (small8 (n := K.size) (by omega))
      have h3 : K.data.toList.length = K.size := by simp
      rw [List.length_append]; omega
    generalize putL K.size ++ K.data.toList = T at *
    clear he hx
    gi_wp2_with fail
    have bl1 : Below w.heap.size W (W.setCell ⟨w.heap.size, 0, none⟩ (.int .i64 ((pre.length : Int) + 1))) := (Below.refl _ W).setCell (p := ⟨w.heap.size, 0, none⟩) (Nat.le_refl _) _
    have ko1 : KeepsOthers W (W.setCell ⟨w.heap.size, 0, none⟩ (.int .i64 ((pre.length : Int) + 1))) := KeepsOthers.setCell _ _ _
    have sb1 : ∀ k, k ≠ w.heap.size → (W.setCell ⟨w.heap.size, 0, none⟩ (.int .i64 ((pre.length : Int) + 1))).heap[k]? = W.heap[k]? := fun k hk => block_other hk
    have cb1 : (W.setCell ⟨w.heap.size, 0, none⟩ (.int .i64 ((pre.length : Int) + 1))).heap[w.heap.size]? = some (.cells #[.int .i64 ((pre.length : Int) + 1)] 3 (0, 0)) := by
      exact Go.heap_setCell_same W w.heap.size 0 _ _ _ c0
    generalize W.setCell ⟨w.heap.size, 0, none⟩ (.int .i64 ((pre.length : Int) + 1)) = W1 at *
    have T1 := Lib.hid (t0.far (w' := W1) (fun k hk _ => sb1 k (by omega)))
    have B1 := Lib.hid (hB.trans bl1)
    refine ⟨trivial, (CallsIn.inRound l' (callsIn_wide.2 (hT _))).mono ?_⟩
    rintro e w2 ⟨rfl, b2⟩
    have T2 := Lib.hid (T1.out.kept2 b2)
    have B2 := Lib.hid (B1.out.trans (b2.mono B1.out.size))
    have hlt0 := block_lt c0
    have hs1 := bl1.size
    have hs2 := b2.size
    gi_wp2_with fail
    refine ⟨trivial, (CallsIn.inRound l' (callsIn_wide.2 (bwrite_any T2.out _ (by rw [tx_size]; omega) (by omega)))).mono ?_⟩
    rintro e w3 ⟨rfl, t3, b3, k3⟩
    have kb := (KeepB.of_below b2).trans k3
    have ko := ko1.trans (kb.others (Nat.le_trans hs2 b3.size))
    have g0' := kb.cells ((sb1 _ (by omega)).trans g0) (by decide) (by decide)
    have g1' := kb.cells ((sb1 _ (by omega)).trans g1) (by decide) (by decide)
    have c0' := kb.cells cb1 (by decide) (by decide)
    have B3 := Lib.hid (B2.out.trans (b3.mono (by omega)))
    gi_wp2
    refine ⟨ko.from _, ?_, ?_, ?_, g0', g1', B3.out⟩
    · rintro k (rfl | rfl)
      · rw [g0', g0]
      · rw [g1', g1]
    · rw [c0']
      simp
    · show BuildT w3 _ _ (firstsC l (pre ++ [x]))
      rw [HSN.out]
      exact t3
  case rest =>
    rintro D W hD ⟨c0, t0, g0, g1, hB⟩ hK
    rw [chunks_len] at c0
    rw [firstsC_all] at t0
    have hp2 : partsN l.length ≤ 439804651099 := by unfold partsN; omega
    have hfl := firsts_len hf (partsN l.length)
    have hP1 := fun w => put_any (partsN l.length) (small8 (by omega)) w
    have hP2 := fun w => put_any l.length (small8 (by omega)) w
    have z1 := putL_len10 (small8 (n := partsN l.length) (by omega))
    have z2 := putL_len10 (small8 (n := l.length) (by omega))
    have d0 : W.cell? ⟨w.heap.size, 0, none⟩ = some (.int .i64 (partsN l.length : Nat)) := by rw [block_cell c0]; rfl
    have HE : Hid ((⟨(headL l).toArray⟩ : ByteArray) = ⟨(putL (partsN l.length)).toArray⟩ ++ ⟨(enct (firstsK l (partsN l.length))).toArray⟩ ++ ⟨(putL l.length).toArray⟩) := by
      show _ = _
      rw [tx_app, tx_app, List.append_assoc]
      rfl
    have hlt0 := block_lt c0
    generalize enct (firstsK l (partsN l.length)) = F at *
    generalize partsN l.length = p at *
    obtain ⟨A1, eA1⟩ : ∃ A : ByteArray, (⟨(putL p).toArray⟩ : ByteArray) = A := ⟨_, rfl⟩
    obtain ⟨A2, eA2⟩ : ∃ A : ByteArray, (⟨(putL l.length).toArray⟩ : ByteArray) = A := ⟨_, rfl⟩
    obtain ⟨A3, eA3⟩ : ∃ A : ByteArray, (⟨F.toArray⟩ : ByteArray) = A := ⟨_, rfl⟩
    have y1 : A1.size ≤ 10 := by rw [← eA1, tx_size]; exact z1
    have y2 : A2.size ≤ 10 := by rw [← eA2, tx_size]; exact z2
    have y3 : A3.size ≤ 80 * p := by rw [← eA3, tx_size]; exact hfl
    have HE2 := HE.out
    simp only [eA1, eA2, eA3] at HE2 hP1 hP2
    have HE3 := Lib.hid HE2
    have w1 : ∀ m : Int, m = (p : Int) → IntKind.u64.wrap m = (p : Int) := by rintro m rfl; rw [IntKind.wrap_u64]; omega
    have w2 : ∀ m : Int, m = (l.length : Int) → IntKind.u64.wrap m = (l.length : Int) := by rintro m rfl; rw [IntKind.wrap_u64]; omega
    have n1 : ¬ 9223372036854775807 < A1.size + A3.size := by omega
    have n2 : ¬ 9223372036854775807 < A1.size + A3.size + A2.size := by omega
    have T0 := Lib.hid t0
    have B0 := Lib.hid hB
    have HKD := Lib.hid hK
    clear HE HE2 t0 hB hK z1 z2
    go_wp2_with fail
    refine (hP1 _).mono ?_
    rintro e w5 ⟨rfl, b5⟩
    have T5 := Lib.hid (T0.out.kept2 b5)
    have B5 := Lib.hid (B0.out.trans (b5.mono B0.out.size))
    have D5 := Lib.hid ((b5.block _ (block_lt HKD.out)).trans HKD.out)
    have hs5 := b5.size
    clear b5
    go_wp2_with fail
    refine (bstring_any T5.out (by omega)).mono ?_
    rintro e w6 ⟨rfl, b6, k6⟩
    rw [eA3]
    have B6 := Lib.hid (B5.out.trans (b6.mono (by omega)))
    have D6 := Lib.hid (k6 _ _ D5.out (fun _ _ _ h => by cases h))
    clear b6 k6
    go_wp2_with fail
    refine (hP2 _).mono ?_
    rintro e w7 ⟨rfl, b7⟩
    have B7 := Lib.hid (B6.out.trans (b7.mono B6.out.size))
    have D7 := Lib.hid ((b7.block _ (block_lt D6.out)).trans D6.out)
    clear b7
    go_wp2
    refine ⟨by simp, .inl ⟨_, _, rfl, run_takeDeferred D7.out, ?_⟩⟩
    exact ⟨_, results_tmp rfl _ _ _, by rw [HE3.out]; rfl, B7.out.trans (belowK_b (w := w) (Nat.le_refl _) _ D _ _ (by omega) D7.out rfl rfl)⟩
end Go.Proofs.Ytlakemcbfeogkaa

namespace Go.Proofs.Ytlakemcbfeogkaa
open Go.RowKit
set_option linter.unusedVariables false

theorem filt_min (n : Nat) : min ((n : Int) + 8) 8192 = ((min (n + 8) 8192 : Nat) : Int) := by omega
theorem filt_make (l : List PairS) : makeS (keysOf l) ((min (l.length + 8) 8192 : Nat) : Int) = ⟨(filtL l).toArray⟩ := by
  unfold makeS
  rw [if_pos (by omega)]
  unfold filtL
  rw [Int.toNat_natCast]
  rfl

set_option maxHeartbeats 2000000 in
set_option maxRecDepth 100000 in
theorem filterOf_any {w : World} {a : Option Addr} {c : Nat} {l : List PairS} (h : ReadP w (.slice a l.length c) l) (hf : FineP l) (hN : l.length ≤ 3518437208780) :
    Calls Try.prog 24 #[.slice a l.length c] w fun e w' => e = .returned (.string ⟨(filtL l).toArray⟩) ∧ Below w.heap.size w w' := by
  obtain ⟨i0, hi, hz0, hz1, hz2⟩ := info_parts infoStr6
  have H := Lib.hid h
  have HF := Lib.hid hf
  have HB0 := Lib.hid (Below.refl w.heap.size w)
  clear h hf
  go_enter Try.func24, Try.ntmps24
  go_wp2_with (at_make; go_loud (refine wpList_make_own w rfl _ _ 69 rfl w.heap.size 9 i0 (.string ⟨#[]⟩) 1 Try.underlying69 hi hz0 hz1 .i64 .i64 _ l.length rfl rfl rfl ?m1 ?m2 ?m3 ?_))
  case m1 => rw [hz2]; omega
  case m2 => unfold maxLen; omega
  case m3 => omega
  intro w0 hown hgrow
  have Hb0 := Lib.hid (HB0.out.grown hgrow (by omega) (fun j hj => by cases hj))
  clear hgrow HB0
  go_wp2
  go_loopw [3, 13] (fun kv iv wr => ∃ i : Nat, i ≤ l.length ∧ iv = .int .i64 (i : Int) ∧ wr.ownsRow w.heap.size 9 1 kv i (txs6 (keysOf (l.take i))) ∧ Hid (Below w.heap.size w wr)) (fun _ iv _ => l.length - (intOf iv).toNat)
  case atStart => exact ⟨0, Nat.zero_le _, rfl, hown, Hb0.out⟩
  case round =>
    clear Hb0 hown
    obtain ⟨i, hil, rfl, hown, HI⟩ := hrel
    obtain ⟨ka, kc, rfl⟩ := row_slice hown
    by_cases hlt : i < l.length
    · obtain ⟨b, o, rfl, q0, q1, q2⟩ := H.out.in HI.out hlt
      have HKN := Lib.hid (keys_next hlt)
      have hmeas : l.length - (intOf (.int .i64 ((i : Int) + 1))).toNat < l.length - (intOf (.int .i64 (i : Int))).toNat := by simp [intOf]; omega
      generalize l[i] = X at *
      obtain ⟨xk, xv, xg⟩ := X
      simp only at q0 q1 q2 HKN
      have hB1 := Lib.hid (HI.out.alloc HI.out.size (.cells #[.string xk, .string xv, .bool xg] 39))
      have hows := hown.alloc (.cells #[.string xk, .string xv, .bool xg] 39)
      have hws := HI.out.size
      go_wp2_with (at_builtin; go_loud (refine wpList_append_own _ rfl (.tmp 17) (.tmp 20) 69 rfl w.heap.size 9 i0 (.string ⟨#[]⟩) 1 16 Try.underlying69 hi hz0 hz1 hz2 rfl (by decide) _ _ _ rfl (hows.alloc _) ⟨wr.heap.size + 1, 0, none⟩ 1 1 [.string xk] rfl rfl ?a3 (one_text xk) ?a4 ?a5 ?a6 ?_))
      case a3 =>
        have hct := cell_text (wr.alloc (.cells #[.string xk, .string xv, .bool xg] 39)) xk 9
        rw [World.size_alloc] at hct
        exact hct
      case a4 => unfold maxLen; omega
      case a5 => omega
      case a6 => first | omega | (simp; omega)
      intro v' w2 hown' hgrow _
      have hb2 := Lib.hid ((hB1.out.alloc hB1.out.size _).grown hgrow (by simp; omega) (fun j hj => (hows.lt j hj).1))
      clear hgrow hows
      go_wp2
      go_roundw
      case rel => exact ⟨i + 1, by omega, by go_num, by rw [HKN.out]; exact hown', hb2.out⟩
      case measure => exact hmeas
    · obtain rfl : i = l.length := by omega
      rw [List.take_length] at hown
      have hkz : ∀ j, ((keysOf l).getD j ByteArray.empty).size ≤ 140737488351232 := fun j => by
        by_cases hj : j < l.length
        · have e : (keysOf l).getD j ByteArray.empty = l[j].key := by simp [keysOf, List.getD, hj]
          rw [e]
          have := ((fine_iff _).1 (HF.out _ (List.getElem_mem hj))).2.1
          omega
        · have e : (keysOf l).getD j ByteArray.empty = ByteArray.empty := by simp [keysOf, List.getD, Nat.le_of_not_lt hj]
          rw [e]; exact Nat.zero_le _
      have hks : (keysOf l).length = l.length := by simp [keysOf]
      have how : wr.ownsRow w.heap.size 9 1 (.slice ka (keysOf l).length kc) (keysOf l).length (txs6 (keysOf l)) := by rw [hks]; exact hown
      obtain ⟨ka', kc', hkv, hk6⟩ := keys_own how hkz (by omega)
      injection hkv with hk1 hk2 hk3
      subst hk1
      subst hk3
      have HMK := Lib.hid (make_any ka kc (keysOf l) _ hk6.1 (fun j => by have := hkz j; unfold maxLen; omega) ((min (l.length + 8) 8192 : Nat) : Int) (wf_small (by omega)))
      rw [filt_make, hks] at HMK
      have hmn := filt_min l.length
      generalize min (l.length + 8) 8192 = M at *
      have HB := Lib.hid HI.out
      clear hown how hk6 HI hkz
      go_wp2_with fail
      refine HMK.out.mono ?_
      rintro e w5 ⟨rfl, b5⟩
      have HB5 := Lib.hid (HB.out.trans (b5.mono HB.out.size))
      clear b5
      go_wp2
      go_ret
      exact ⟨rfl, HB5.out⟩
end Go.Proofs.Ytlakemcbfeogkaa

namespace Go.Proofs.Ytlakemcbfeogkaa
open Go.RowKit Go.Shelf Go.Maps Go.WideMaps
set_option linter.unusedVariables false

attribute [local go_sem] Oper.semAt_some

/-- The frames of some chunks. -/
def framesC (l : List PairS) (pre : List (Ch l.length)) : List UInt8 := framesL (pre.map fun x => blockL (partP l x.1))
theorem framesC_snoc (l : List PairS) (pre : List (Ch l.length)) (x : Ch l.length) : framesC l (pre ++ [x]) = framesC l pre ++ frameL (blockL (partP l x.1)) := by
  unfold framesC
  rw [List.map_append]
  exact framesL_end _ _
theorem framesC_all (l : List PairS) : framesC l (chunks l.length) = framesL (blocksL l (partsN l.length)) := by
  unfold framesC blocksL
  rw [chunks_map l.length (fun i => blockL (partP l i))]
theorem frame70 {xs : List PairS} (h : FineP xs) (h8 : xs.length ≤ 8) : (frameL (blockL xs)).length ≤ 70100 := by
  have h1 := block8_len h h8
  have h2 := frameL_le (block_small h h8)
  omega
theorem framesC_len {l : List PairS} (h : FineP l) (pre : List (Ch l.length)) : (framesC l pre).length ≤ 70100 * pre.length := by
  induction pre with
  | nil => simp [framesC, framesL]
  | cons x r ih =>
    have e : framesC l (x :: r) = frameL (blockL (partP l x.1)) ++ framesC l r := by simp [framesC, framesL]
    have h1 := frame70 (part_fine h x.1) (by rw [partP_len]; omega)
    rw [e, List.length_append, List.length_cons]
    omega
theorem chunk_is (b o : Nat) (l : List PairS) (i : Nat) : chunkV b o l.length i = .slice (some ⟨b, o + 8 * i * 3, none⟩) (partP l i).length (partP l i).length := by
  unfold chunkV
  rw [partP_len]

set_option maxHeartbeats 4000000 in
set_option maxRecDepth 100000 in
theorem build_any {w : World} {a : Option Addr} {c : Nat} {l : List PairS} (h : ReadP w (.slice a l.length c) l) (hc : l.length ≤ c) (hN : l.length ≤ 3518437208780) :
    Calls Try.prog 8 #[.slice a l.length c] w fun e w' => e = .returned (.tuple #[.string (buildS l), .int .i64 (buildE l : Nat)]) ∧ Below w.heap.size w w' := by
  have hchk := check_any h
  by_cases hE : checkE l = 0
  · obtain ⟨hne, hrise, hf⟩ := checkE_zero.1 hE
    have h1 : 1 ≤ l.length := List.length_pos_iff.2 hne
    obtain ⟨b, o, rfl, _⟩ := h.at (show 0 < l.length from h1)
    have HW : Hid (∀ w', Below w.heap.size w w' → ReadP w' (.slice (some ⟨b, o, none⟩) l.length c) l) := fun w' hb => h.below hb
    have hb0 : badB ⟨#[]⟩ l = 0 := (bad_zero l).2 ⟨hrise, hf⟩
    have HBE : Hid (buildE l = if 1048576 < (footL l (filtL l)).length then 2 else 0) := by
      show _ = _
      unfold buildE
      rw [if_neg hne, hb0, if_neg (by simp)]
    have hfl := firsts_len hf (partsN l.length)
    have hzF : (filtL l).length ≤ 8192 := by unfold filtL; rw [makeL_len]; omega
    have hp2 : partsN l.length ≤ 439804651099 := by unfold partsN; omega
    have z1 := putL_len10 (small8 (n := partsN l.length) (by omega))
    have z2 := putL_len10 (small8 (n := l.length) (by omega))
    have z3 := putL_len10 (small8 (n := (filtL l).length) (by omega))
    have hzH : (headL l).length ≤ 20 + 80 * partsN l.length := by
      unfold headL
      rw [List.length_append, List.length_append]
      omega
    have hFT : Hid (footL l (filtL l) = headL l ++ (putL (filtL l).length ++ filtL l)) := foot_head l (filtL l)
    have hT := fun w => text_any ⟨(filtL l).toArray⟩ (by rw [tx_size]; omega) w
    obtain ⟨FL, eFL⟩ : ∃ A : ByteArray, (⟨(filtL l).toArray⟩ : ByteArray) = A := ⟨_, rfl⟩
    have dFL : FL.data.toList = filtL l := by rw [← eFL]
    have sFL : FL.size = (filtL l).length := by rw [← eFL, tx_size]
    rw [eFL] at hT
    rw [dFL, sFL] at hT
    obtain ⟨TF, eTF⟩ : ∃ A : ByteArray, (⟨(putL (filtL l).length ++ filtL l).toArray⟩ : ByteArray) = A := ⟨_, rfl⟩
    rw [eTF] at hT
    obtain ⟨HD, eHD⟩ : ∃ A : ByteArray, (⟨(headL l).toArray⟩ : ByteArray) = A := ⟨_, rfl⟩
    have eFT : HD ++ TF = ⟨(footL l (filtL l)).toArray⟩ := by rw [hFT.out, ← eHD, ← eTF, tx_app]
    have sTF : TF.size ≤ 8202 := by rw [← eTF, tx_size, List.length_append]; omega
    have sHD : HD.size ≤ 20 + 80 * partsN l.length := by rw [← eHD, tx_size]; exact hzH
    have n1 : ¬ 9223372036854775807 < HD.size + TF.size := by omega
    have hhd := fun w' hb => head_any (HW.out w' hb) hf hc hN h1
    have hft := fun w' hb => filterOf_any (HW.out w' hb) hf hN
    rw [eHD] at hhd
    rw [eFL] at hft
    have HCH := Lib.hid hchk
    rw [hE] at HCH
    obtain ⟨FT, eW⟩ : ∃ A : ByteArray, HD ++ TF = A := ⟨_, rfl⟩
    have zFT : FT.size = (footL l (filtL l)).length := by rw [← eW, eFT, tx_size]
    have dFT : FT.data.toList = footL l (filtL l) := by rw [← eW, eFT]
    have n2 : ¬ 9223372036854775807 < FT.size := by rw [← eW, ByteArray.size_append]; exact n1
    clear hchk h eFT n1
    refine (callsIn_wide (n := 6)).1 ?_
    refine callsIn_of_wp_marks Try.func8 rfl trivial ?_ rfl
    simp only [Try.ntmps8, List.size_toArray, List.length_cons, List.length_nil, Nat.reduceAdd, Nat.reduceSub, Array.replicate_succ, Array.replicate_zero, List.push_toArray, List.append_toArray, List.nil_append, List.cons_append]
    refine wpIn_wide.2 ?_
    go_wp2_with fail
    refine HCH.out.mono ?_
    rintro e w2 ⟨rfl, b2⟩
    have B2 := Lib.hid b2
    clear b2 HCH
    go_wp2_with fail
    refine (hhd w2 B2.out).mono ?_
    rintro e w3 ⟨rfl, b3⟩
    have B3 := Lib.hid (B2.out.trans (b3.mono B2.out.size))
    clear b3 hhd
    go_wp2_with fail
    refine (hft w3 B3.out).mono ?_
    rintro e w4 ⟨rfl, b4⟩
    have B4 := Lib.hid (B3.out.trans (b4.mono B3.out.size))
    clear b4 hft
    go_wp2_with fail
    refine (hT w4).mono ?_
    rintro e w5 ⟨rfl, b5⟩
    have B5 := Lib.hid (B4.out.trans (b5.mono B4.out.size))
    clear b5 hT
    go_wp2_with fail
    by_cases hl : FT.size ≤ 1048576
    · have hwr := wrap_any FT hl w5
      rw [dFT] at hwr
      have HB0 : Hid (buildE l = 0 ∧ buildS l = ⟨(framesL (blocksL l (partsN l.length)) ++ frameL (footL l (filtL l))).toArray⟩) := by
        have e1 : buildE l = 0 := by rw [HBE.out, if_neg (by omega)]
        exact ⟨e1, by unfold buildS; rw [if_pos e1]; rfl⟩
      have hfew : l.length ≤ 8388608 := by
        obtain ⟨flt, hok, _⟩ := build_tab HB0.out.1
        exact tab_few hok
      have hfr := frameL_le (l := footL l (filtL l)) (by omega)
      refine hwr.mono ?_
      rintro e w6 ⟨rfl, b6⟩
      have B6 := Lib.hid (B5.out.trans (b6.mono B5.out.size))
      obtain ⟨FR, eFR⟩ : ∃ A : ByteArray, (⟨(frameL (footL l (filtL l))).toArray⟩ : ByteArray) = A := ⟨_, rfl⟩
      have dFR : FR.data.toList = frameL (footL l (filtL l)) := by rw [← eFR]
      have zFR : FR.size ≤ 1048590 := by rw [← eFR, tx_size]; omega
      rw [eFR]
      clear b6 hwr eFR hfr
      generalize frameL (footL l (filtL l)) = FRL at *
      have k0 := BuildT.new w6
      have bL := (Below.refl w6.heap.size w6).alloc (Nat.le_refl _) (.cells #[.pointer none, .slice none 0 0] 60)
      have h6s : (w6.alloc (.cells #[.pointer none, .slice none 0 0] 60)).heap.size = w6.heap.size + 1 := by simp
      have K0 := Lib.hid k0
      have B7 := Lib.hid (B6.out.trans (bL.mono B6.out.size))
      have H6S := Lib.hid h6s
      have hs6 := B6.out.size
      clear k0 bL h6s
      go_wp2_with fail
      generalize w6.alloc (.cells #[.pointer none, .slice none 0 0] 60) = w7 at *
      generalize w6.heap.size = lo at *
      have hs7 := H6S.out
      refine (chunk_any hc (by omega)).mono ?_
      rintro e wA ⟨g, lb, rfl, eg, hgi, hsA, bA, g0, g1⟩
      have hseq := hgi 5 (by omega) wA (Keeps.refl _ _) (Nat.le_refl _)
      have HA1 := Lib.hid (K0.out.kept2 bA)
      have HBA := Lib.hid (B7.out.trans (bA.mono (by omega)))
      have HG0 := Lib.hid g0
      have HG1 := Lib.hid g1
      have HG : ∀ k, ChunkG w7.heap.size (w7.heap.size + 1) k → k < wA.heap.size := fun k hk => by unfold ChunkG at hk; omega
      clear hgi g0 g1 bA K0
      go_wp2_with fail
      refine range_chunk (m := 6) 31 8 (by omega) rfl eg hseq (Below.refl _ _) HG rfl
        (fun pre W => BuildT W lo lo (framesC l pre) ∧ W.heap[w7.heap.size]? = some (.cells #[.slice (some ⟨b, o, none⟩) l.length c] 22 (0, 0)) ∧ W.heap[w7.heap.size + 1]? = some (.cells #[.int .i64 8] 3 (0, 0)) ∧ Below w.heap.size w W)
        (OwnFrom.and (BuildT.ownFrom _ _ _ (framesC l)) (OwnFrom.and (own_cells _ _ (fun _ => _) (fun _ => rfl)) (OwnFrom.and (own_cells _ _ (fun _ => _) (fun _ => rfl)) (ownFrom_below (Nat.le_refl _) (by omega)))))
        ⟨HA1.out, HG0.out, HG1.out, HBA.out⟩
        ?assign ?body ?rest
      case assign =>
        intro l' x W K hK
        unfold chunkV at *
        gi_wp2
        exact hK
      case body =>
        rintro l' pre x W ⟨t0, g0, g1, hB⟩ hlt
        have hpl : pre.length ≤ 1048577 := by unfold partsN at hlt; omega
        have hx := x.2
        have hPf := part_fine hf x.1
        have hP8 : (partP l x.1).length ≤ 8 := by rw [partP_len]; omega
        have hread := chunk_read (HW.out W hB) x
        rw [chunk_is] at hread ⊢
        have HSN := Lib.hid (framesC_snoc l pre x)
        have hfl2 := framesC_len hf pre
        have hz70 := frame70 hPf hP8
        have hbs := block_small hPf hP8
        have hbo := blockOf_any hread hPf hP8
        generalize partP l x.1 = P at *
        generalize o + 8 * x.1 * 3 = o1 at *
        have hwp := fun w => wrap_any ⟨(blockL P).toArray⟩ (by rw [tx_size]; exact hbs) w
        generalize blockL P = BL at *
        obtain ⟨BB, eBB⟩ : ∃ A : ByteArray, (⟨BL.toArray⟩ : ByteArray) = A := ⟨_, rfl⟩
        have dBB : BB.data.toList = BL := by rw [← eBB]
        rw [eBB] at hbo
        simp only [eBB, dBB] at hwp
        generalize frameL BL = FB at *
        have hlt0 := t0.lt
        clear hread hx eBB dBB hbs
        gi_wp2_with fail
        refine ⟨trivial, (CallsIn.inRound l' (callsIn_wide.2 hbo)).mono ?_⟩
        rintro e w8 ⟨rfl, b8⟩
        have T8 := Lib.hid (t0.kept2 b8)
        have B8 := Lib.hid (hB.trans (b8.mono hB.size))
        have hs8 := b8.size
        gi_wp2_with fail
        refine ⟨trivial, (CallsIn.inRound l' (callsIn_wide.2 (hwp _))).mono ?_⟩
        rintro e w9 ⟨rfl, b9⟩
        have T9 := Lib.hid (T8.out.kept2 b9)
        have B9 := Lib.hid (B8.out.trans (b9.mono B8.out.size))
        have hs9 := b9.size
        gi_wp2_with fail
        refine ⟨trivial, (CallsIn.inRound l' (callsIn_wide.2 (bwrite_any T9.out _ (by rw [tx_size]; omega) (by omega)))).mono ?_⟩
        rintro e w10 ⟨rfl, t10, b10, k10⟩
        have kb := ((KeepB.of_below b8).trans (KeepB.of_below b9)).trans k10
        have ko := kb.others (Nat.le_trans (Nat.le_trans hs8 hs9) b10.size)
        have g0' := kb.cells g0 (by decide) (by decide)
        have g1' := kb.cells g1 (by decide) (by decide)
        have B10 := Lib.hid (B9.out.trans (b10.mono (by omega)))
        gi_wp2
        refine ⟨ko.from _, ?_, ?_, g0', g1', B10.out⟩
        · rintro k (rfl | rfl)
          · rw [g0', g0]
          · rw [g1', g1]
        · show BuildT w10 _ _ (framesC l (pre ++ [x]))
          rw [HSN.out]
          exact t10
      case rest =>
        rintro D W hD ⟨t0, g0, g1, hB⟩ hK
        rw [framesC_all] at t0
        have hfs := frames_len hf (partsN l.length)
        have hpp : partsN l.length ≤ 1048577 := by unfold partsN; omega
        have HB0' := HB0
        generalize framesL (blocksL l (partsN l.length)) = FSx at *
        have hlt0 := t0.lt
        have T0 := Lib.hid t0
        have B0 := Lib.hid hB
        have HKD := Lib.hid hK
        clear t0 hB hK g0 g1
        go_wp2_with fail
        refine (bwrite_any T0.out FR (by omega) (by omega)).mono ?_
        rintro e w11 ⟨rfl, t11, b11, k11⟩
        rw [dFR] at t11
        have T11 := Lib.hid t11
        have B11 := Lib.hid (B0.out.trans (b11.mono (by omega)))
        have D11 := Lib.hid (k11 _ _ HKD.out (fun _ _ _ h => by cases h))
        have hs11 := b11.size
        clear t11 b11 k11
        go_wp2_with fail
        refine (bstring_any T11.out (by omega)).mono ?_
        rintro e w12 ⟨rfl, b12, k12⟩
        have B12 := Lib.hid (B11.out.trans (b12.mono (by omega)))
        have D12 := Lib.hid (k12 _ _ D11.out (fun _ _ _ h => by cases h))
        clear b12 k12
        go_wp2
        refine ⟨by simp, .inl ⟨_, _, rfl, run_takeDeferred D12.out, ?_⟩⟩
        exact ⟨_, results_tmp2 rfl _ _ _, by rw [HB0.out.1, HB0.out.2]; rfl, B12.out.trans (belowK_b (w := w) (Nat.le_refl _) _ D _ _ (by omega) D12.out rfl rfl)⟩
    · have hwr := wrap_long FT hl w5
      have e1 : buildE l = 2 := by rw [HBE.out, if_pos (by omega)]
      have e2 : buildS l = ⟨#[]⟩ := by unfold buildS; rw [if_neg (by omega)]
      refine hwr.mono ?_
      rintro e w6 ⟨rfl, rfl⟩
      go_wp2
      exact ⟨_, results_tmp2 rfl _ _ _, by rw [e1, e2]; rfl, B5.out⟩
  · have hE1 : buildE l = checkE l := by
      unfold checkE at hE ⊢
      unfold buildE
      split
      · rfl
      · rename_i hne
        rw [if_neg hne] at hE
        rw [if_pos hE]
    have hS1 : buildS l = ⟨#[]⟩ := by unfold buildS; rw [if_neg (by omega)]
    rw [hE1, hS1]
    have hc1 : ((checkE l : Int) == 0) = false := by simp; omega
    generalize checkE l = E at *
    go_enter Try.func8, Try.ntmps8
    go_wp2_with fail
    refine hchk.mono ?_
    rintro e w2 ⟨rfl, b2⟩
    have B2 := Lib.hid b2
    clear b2 hchk
    go_wp2
    go_ret2
    exact ⟨rfl, B2.out⟩
end Go.Proofs.Ytlakemcbfeogkaa

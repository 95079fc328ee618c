/- A strings.Builder of the call's own: copyCheck, WriteString, String. -/
import Derived.Test.YthliofijioghkaaG5
import Derived.Test.YthliofijioghkaaG1
import Derived.Test.YthliofijioghkaaShelf
namespace Go.Proofs.Ythliofijioghkaa
open Go.RowKit Go.Lib
set_option linter.unusedVariables false

/-- The builder at b holds the bytes l; all it has lies from B on. -/
def BuildT (w : World) (B b : Nat) (l : List UInt8) : Prop := Lib.IsBuilderF 69 5 B b (Lib.byteCells l) w
theorem BuildT.lt {w : World} {B b : Nat} {l : List UInt8} (h : BuildT w B b l) : b < w.heap.size := by
  rcases h with h | h <;> exact h.lt
theorem BuildT.alloc {w : World} {B b : Nat} {l : List UInt8} (h : BuildT w B b l) (o : Obj) : BuildT (w.alloc o) B b l := by
  rcases h with h | h
  · exact .inl (h.alloc o)
  · exact .inr (h.alloc o)
theorem BuildT.far {w w' : World} {B b : Nat} {l : List UInt8} (h : BuildT w B b l) (hk : ∀ k, B ≤ k → k < w.heap.size → w'.heap[k]? = w.heap[k]?) : BuildT w' B b l := by
  have key : ∀ p, Lib.BuilderAtF 69 5 B b p (Lib.byteCells l) w → Lib.BuilderAtF 69 5 B b p (Lib.byteCells l) w' := by
    rintro p ⟨hBb, v, hbk, hown, hne⟩
    refine ⟨hBb, v, (hk b hBb (block_lt hbk)).trans hbk, ⟨hown.1, ?_⟩, hne⟩
    rcases hown.2 with h | ⟨g, cap, cur, fz, h1, h2, h3, h4⟩
    · exact .inl h
    · exact .inr ⟨g, cap, cur, fz, h1, h2, (hk g h2 (block_lt h3)).trans h3, h4⟩
  rcases h with h | h
  · exact .inl (key _ h)
  · exact .inr (key _ h)
theorem BuildT.kept2 {w w' : World} {B b : Nat} {l : List UInt8} (h : BuildT w B b l) (hb : Below w.heap.size w w') : BuildT w' B b l := h.far fun k _ hk => hb.block k hk
theorem BuildT.new (w : World) : BuildT (w.alloc (.cells #[.pointer none, .slice none 0 0] 69)) w.heap.size w.heap.size [] :=
  Lib.IsBuilderF.of (Lib.fresh_isBuilder _ _ w)
theorem BuildT.low {w : World} {B B' b : Nat} {l : List UInt8} (h : BuildT w B b l) (hB : B' ≤ B) : BuildT w B' b l := by
  have key : ∀ p, Lib.BuilderAtF 69 5 B b p (Lib.byteCells l) w → Lib.BuilderAtF 69 5 B' b p (Lib.byteCells l) w := by
    rintro p ⟨hBb, v, hbk, hown, hne⟩
    refine ⟨by omega, v, hbk, ⟨hown.1, ?_⟩, hne⟩
    rcases hown.2 with h | ⟨g, cap, cur, fz, h1, h2, h3⟩
    · exact .inl h
    · exact .inr ⟨g, cap, cur, fz, h1, by omega, h3⟩
  rcases h with h | h
  · exact .inl (key _ h)
  · exact .inr (key _ h)

/-- Only builders and bytes are turned. -/
def KeepB (w w' : World) : Prop := ∀ (k : Nat) (o : Obj), w.heap[k]? = some o → (∀ (cs : Array Value) (t : TypeId) (fr : Nat × Nat), o = Obj.cells cs t fr → t ≠ 69 ∧ t ≠ 5) → w'.heap[k]? = some o
theorem KeepB.refl (w : World) : KeepB w w := fun _ _ h _ => h
theorem KeepB.trans {a b c : World} (h : KeepB a b) (k : KeepB b c) : KeepB a c := fun i o h1 h2 => k i o (h i o h1 h2) h2
theorem KeepB.of_below {w w' : World} (h : Below w.heap.size w w') : KeepB w w' := fun k o h1 _ => (h.block k (block_lt h1)).trans h1
theorem KeepB.set {w : World} {b j : Nat} {v : Value} {cs : Array Value} {fr : Nat × Nat} (hb : w.heap[b]? = some (.cells cs 69 fr)) : KeepB w (w.setCell ⟨b, j, none⟩ v) := fun k o h1 h2 => by
  rw [Below.heap_setCell _ _ _ _ (fun e2 => ?_)]
  · exact h1
  · have e : k = b := by first | exact e2 | exact e2.symm
    subst e
    rw [hb] at h1
    cases h1
    exact (h2 _ _ _ rfl).1 rfl
theorem KeepB.grown {w w' : World} {B : Nat} {v : Value} {n : Nat} {xs : List Value} (hown : w.ownsRowF B 5 1 v n xs) (hg : w.grownBy w' v.ownBlock) : KeepB w w' := fun k o h1 h2 => by
  rw [hg.block k (block_lt h1) (fun e => ?_)]
  · exact h1
  · rcases hown.2 with ⟨rfl, _⟩ | ⟨g, cap, cur, fz, rfl, _, hg2, _⟩
    · simp [Value.ownBlock] at e
    · simp [Value.ownBlock] at e
      subst e
      rw [hg2] at h1
      cases h1
      exact (h2 _ _ _ rfl).2 rfl
theorem KeepB.cells {w w' : World} (h : KeepB w w') {k : Nat} {cs : Array Value} {t : TypeId} {fr : Nat × Nat} (hk : w.heap[k]? = some (.cells cs t fr)) (h1 : t ≠ 69) (h2 : t ≠ 5) : w'.heap[k]? = some (.cells cs t fr) := h k _ hk (fun _ _ _ e => by cases e; exact ⟨h1, h2⟩)

theorem infoBld : (Try.prog.info? 69).map (·.size) = some 2 := by kernel_rfl
theorem liesBld : liesAt Try.prog Try.prog.depth 69 (2 / Try.prog.cellsOf 69) 0 69 1 = true := by kernel_rfl

set_option maxHeartbeats 1000000 in
set_option maxRecDepth 100000 in
theorem bcheck_any {w : World} {B b : Nat} {l : List UInt8} (h : BuildT w B b l) :
    Calls Try.prog 55 #[.pointer (some ⟨b, 0, none⟩)] w fun e w' => e = .returned (.tuple #[]) ∧ (Lib.BuilderAtF 69 5 B b (.pointer (some ⟨b, 0, none⟩)) (Lib.byteCells l) w' ∧ Below B w w' ∧ KeepB w w') := by
  obtain ⟨j, hj, hjs⟩ := Option.map_eq_some_iff.1 infoBld
  rcases h with h | h
  · have h0 := h.cell0
    have hsh := h.shape
    have hfz := h.frozen0
    have HU := Lib.hid (h.used (.pointer (some ⟨b, 0, none⟩)))
    have HB := Lib.hid h.1
    have HK : Hid (KeepB w (w.setCell ⟨b, 0, none⟩ (.pointer (some ⟨b, 0, none⟩)))) := by
      obtain ⟨_, v, hbk, _⟩ := h
      exact KeepB.set hbk
    clear h
    go_enter Try.func55, Try.ntmps55
    go_wp2
    rw [Lib.run_to_unsafe w ⟨b, 0, none⟩ Try.underlying66 Try.underlying101 hj (by rw [hjs]; decide) hsh (Nat.zero_lt_succ 1)]
    simp only [Result.andThen]
    rw [Oper.upon_value]
    go_wp2
    rw [run_callFunc_extern Try.func62 (by kernel_rfl) (by kernel_rfl) (by kernel_rfl) (e := Extern.AbiNoEscape.same) (by kernel_rfl)]
    rw [Lib.run_noEscape]
    simp only [Result.andThen]
    rw [Oper.upon_value]
    go_wp2
    rw [Lib.run_from_unsafe w ⟨b, 0, none⟩ Try.underlying101 Try.underlying66 hj hsh liesBld]
    simp only [Result.andThen]
    rw [Oper.upon_value]
    go_wp2
    go_end0
    exact ⟨rfl, HU.out, (Below.refl B w).setCell (p := ⟨b, 0, none⟩) HB.out _, HK.out⟩
  · have h0 := h.cell0
    have HU := Lib.hid h
    clear h
    go_enter Try.func55, Try.ntmps55
    go_wp2
    rw [Lib.run_neq_ptr_same w _ Try.underlying66 hj]
    go_wp2
    go_end0
    exact ⟨rfl, HU.out, Below.refl B _, KeepB.refl _⟩

set_option maxHeartbeats 2000000 in
set_option maxRecDepth 100000 in
theorem bwrite_any {w : World} {B b : Nat} {l : List UInt8} (h : BuildT w B b l) (s : ByteArray) (hlen : l.length + s.size ≤ 140737488355328) (hBw : B ≤ w.heap.size) :
    Calls Try.prog 38 #[.pointer (some ⟨b, 0, none⟩), .string s] w fun e w' => e = .returned (.tuple #[.int .i64 s.size, .nilIface]) ∧ BuildT w' B b (l ++ s.data.toList) ∧ Below B w w' ∧ KeepB w w' := by
  obtain ⟨i0, hi, hz0, hz1, hz2⟩ := info_parts infoU8
  have hbl : (Lib.byteCells l).length = l.length := Lib.byteCells_length l
  go_enter Try.func38, Try.ntmps38
  go_wp2_with fail
  refine (bcheck_any h).mono ?_
  rintro e w1 ⟨rfl, h1, hb1, hk1⟩
  obtain ⟨hB, v, hbk, hown, hne⟩ := h1
  have c0 : w1.cell? ⟨b, 0, none⟩ = some (.pointer (some ⟨b, 0, none⟩)) := by rw [Lib.cell_of_heap hbk]; rfl
  have c1 : w1.cell? ⟨b, 1, none⟩ = some v := by rw [Lib.cell_of_heap hbk]; rfl
  go_wp2_with (at_builtin; go_loud (refine Lib.wpList_append_own_stringF _ rfl _ _ 67 9 rfl B 5 i0 Try.underlying67 Try.underlying9 hi hz0 hz1 hz2 _ _ _ rfl hown s rfl ?c3 ?c4 ?c5 ?_))
  case c3 => unfold maxLen; omega
  case c4 => omega
  case c5 => have := hb1.size; omega
  intro v' w2 hown' hgrow _
  have hlt : b < w1.heap.size := by
    rcases Nat.lt_or_ge b w1.heap.size with h' | h'
    · exact h'
    · simp [Array.getElem?_eq_none h'] at hbk
  have hb2 : w2.heap[b]? = some (.cells #[.pointer (some ⟨b, 0, none⟩), v] 69 (0, 0)) := by
    rw [hgrow.block b hlt (fun e => hne e.symm)]
    exact hbk
  have HK := Lib.hid ((hk1.trans (KeepB.grown hown hgrow)).trans (KeepB.set (j := 1) (v := v') hb2))
  have d0 : w2.cell? ⟨b, 0, none⟩ = some (.pointer (some ⟨b, 0, none⟩)) := by rw [Lib.cell_of_heap hb2]; rfl
  have d1 : w2.cell? ⟨b, 1, none⟩ = some v := by rw [Lib.cell_of_heap hb2]; rfl
  have f1 : w2.frozen? ⟨b, 1, none⟩ = false := Lib.frozen_of_heap hb2 1
  obtain ⟨ao, n', cap, rfl⟩ : ∃ ao n' cap, v' = .slice ao n' cap := by
    rcases hown'.2 with ⟨hv, _⟩ | ⟨g, cap, cur, fz, hv, _⟩
    · exact ⟨_, _, _, hv⟩
    · exact ⟨_, _, _, hv⟩
  go_wp2
  go_ret2
  refine ⟨rfl, .inr ?_, ?_, HK.out⟩
  · rw [Lib.byteCells_append]
    exact Lib.BuilderAtF.put (T := 69) (e := 5) hB hb2 (bs' := Lib.byteCells l ++ Lib.strCells s) (by simpa [Lib.strCells_length, hbl] using hown') (by decide)
  · exact (hb1.grown hgrow (by have := hb1.size; omega) (fun k hk => (hown.lt k hk).1)).setCell (p := ⟨b, 1, none⟩) hB _

theorem KeepB.of_others {w w' : World} {B b : Nat} {l : List UInt8} (hb : BuildT w B b l) (h : Lib.OthersKept 5 (some b) w w') : KeepB w w' := fun k o h1 h2 => by
  refine h k o h1 (fun e => ?_) (fun c fz e => (h2 c _ fz e).2 rfl)
  injection e with e
  subst e
  rcases hb with ⟨_, v, hbk, _⟩ | ⟨_, v, hbk, _⟩
  · rw [hbk] at h1
    injection h1 with h1
    exact (h2 _ _ _ h1.symm).1 rfl
  · rw [hbk] at h1
    injection h1 with h1
    exact (h2 _ _ _ h1.symm).1 rfl
theorem bstring_any {w : World} {B b : Nat} {l : List UInt8} (h : BuildT w B b l) (hBw : B ≤ w.heap.size) :
    Calls Try.prog 39 #[.pointer (some ⟨b, 0, none⟩)] w fun e w' => e = .returned (.string ⟨l.toArray⟩) ∧ Below B w w' ∧ KeepB w w' :=
  (Sh.Builder_String_any_k B b l w h hBw).mono (fun e w' k => ⟨k.1, k.2.2.1, KeepB.of_others h k.2.2.2⟩)
end Go.Proofs.Ythliofijioghkaa

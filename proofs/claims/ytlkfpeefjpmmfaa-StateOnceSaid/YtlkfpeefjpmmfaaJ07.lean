/- Joined: WT R12 R12b R12c W00 W01. -/
import Derived.Test.YtlkfpeefjpmmfaaChecked
import Derived.Test.YtlkfpeefjpmmfaaM03
import Derived.Laws.IdiomStrings
import Derived.Outline
import Derived.WalkSmall
import Derived.Maps.Ext
import Derived.Maps.OwnSet
import Derived.Sort.KeysCollected
import Derived.OneCell
import Derived.Lib.AppendStr
import Derived.Test.YtlkfpeefjpmmfaaM12
import Derived.WalkKit
import Derived.OpenShut
import Derived.Test.YtlkfpeefjpmmfaaM01
import Derived.Test.YtlkfpeefjpmmfaaRows

namespace Go.Proofs.Ytlkfpeefjpmmfaa
open Go.RowKit Go.Maps Go.WideMaps
set_option linter.unusedVariables false

/-- w' is w but for the blocks of F, and for new ones. -/
structure Turn (F : Nat → Prop) (w w' : World) : Prop where
  os : w'.os = w.os
  tape : w'.tape = w.tape
  output : w'.output = w.output
  size : w.heap.size ≤ w'.heap.size
  block : ∀ k, k < w.heap.size → ¬ F k → w'.heap[k]? = w.heap[k]?

section
variable {F G : Nat → Prop} {a b c w w' : World} {B : Nat}

theorem Turn.refl (F : Nat → Prop) (w : World) : Turn F w w := ⟨rfl, rfl, rfl, Nat.le_refl _, fun _ _ _ => rfl⟩
theorem Turn.trans (h : Turn F a b) (k : Turn G b c) (hg : ∀ i, G i → F i ∨ a.heap.size ≤ i) : Turn F a c :=
  ⟨k.os.trans h.os, k.tape.trans h.tape, k.output.trans h.output, Nat.le_trans h.size k.size, fun i hi hf =>
    (k.block i (Nat.lt_of_lt_of_le hi h.size) (fun g => by rcases hg i g with h1 | h1; exact hf h1; omega)).trans (h.block i hi hf)⟩
theorem Turn.mono (h : Turn F a b) (hg : ∀ i, F i → G i ∨ a.heap.size ≤ i) : Turn G a b :=
  ⟨h.os, h.tape, h.output, h.size, fun i hi hf => h.block i hi (fun g => by rcases hg i g with h1 | h1; exact hf h1; omega)⟩
theorem Turn.of_below (F : Nat → Prop) (h : Below a.heap.size a b) : Turn F a b := ⟨h.os, h.tape, h.output, h.size, fun i hi _ => h.block i hi⟩
theorem Turn.below (h : Turn F a b) (hF : ∀ i, F i → B ≤ i) (hB : B ≤ a.heap.size) : Below B a b :=
  ⟨h.os, h.tape, h.output, h.size, fun i hi => h.block i (by omega) (fun g => by have := hF i g; omega)⟩
theorem Turn.drew (h : Turn F a w) : Turn F a w.drew := ⟨h.os, h.tape, h.output, h.size, h.block⟩
theorem Turn.alloc (h : Turn F a w) (o : Obj) : Turn F a (w.alloc o) :=
  ⟨h.os, h.tape, h.output, by have := h.size; simp; omega, fun i hi hf => (Below.heap_alloc _ _ _ (by have := h.size; omega)).trans (h.block i hi hf)⟩
theorem Turn.setCell (h : Turn F a w) {p : Addr} (hp : F p.block ∨ a.heap.size ≤ p.block) (v : Value) : Turn F a (w.setCell p v) :=
  ⟨h.os, h.tape, h.output, by have := h.size; simpa [World.setCell] using this, fun i hi hf => (Below.heap_setCell _ _ _ _ (fun e => by subst e; rcases hp with h1 | h1; exact hf h1; omega)).trans (h.block i hi hf)⟩
theorem Turn.grown (h : Turn F a w) {row : Option Nat} (hg : w.grownBy w' row) (hr : ∀ k, row = some k → F k ∨ a.heap.size ≤ k) : Turn F a w' :=
  ⟨hg.os.trans h.os, hg.tape.trans h.tape, hg.output.trans h.output, Nat.le_trans h.size hg.size, fun i hi hf =>
    (hg.block i (by have := h.size; omega) (fun e => by rcases hr i e.symm with h1 | h1; exact hf h1; omega)).trans (h.block i hi hf)⟩

theorem below_undrew {w w' : World} (h : Below w.drew.heap.size w.drew w') : Below w.heap.size w w' := ⟨h.os, h.tape, h.output, h.size, h.block⟩
theorem block_lt {w : World} {k : Nat} {o : Obj} (h : w.heap[k]? = some o) : k < w.heap.size := lt_of_block h
theorem Turn.keeps (h : Turn G w w') {k : Nat} {o : Obj} (hk : w.heap[k]? = some o) (hg : ¬ G k) : w'.heap[k]? = some o := (h.block k (block_lt hk) hg).trans hk
theorem Turn.row (h : Turn G w w') {base : Nat} {e : TypeId} {size : Nat} {v : Value} {n : Nat} {xs : List Value} (hr : w.ownsRow base e size v n xs) (hg : ∀ k, v.ownBlock = some k → ¬ G k) : w'.ownsRow base e size v n xs := by
  refine ⟨hr.1, ?_⟩
  rcases hr.2 with h1 | ⟨g, cap, cur, hv, hb, hgg, rest⟩
  · exact .inl h1
  · subst hv
    exact .inr ⟨g, cap, cur, rfl, hb, h.keeps hgg (hg g rfl), rest⟩
theorem Turn.map (h : Turn G w w') {P : Program} {k : TypeId} {R : Value → Option (DU × List MemPlace)} {b n : Nat} {D : DU} (hm : w.ownsMap P k R b n D) (hg : ¬ G b) : w'.ownsMap P k R b n D := by
  obtain ⟨es, clock, hb, r⟩ := hm
  exact ⟨es, clock, h.keeps hb hg, r⟩
end

/-- A store into a block of cells. -/
theorem block_set {w : World} {b : Nat} {c : Array Value} {t : TypeId} {f : Nat × Nat} (h : w.heap[b]? = some (.cells c t f)) (i : Nat) (v : Value) : (w.setCell ⟨b, i, none⟩ v).heap[b]? = some (.cells (c.setIfInBounds i v) t f) := by
  have hlt := block_lt h
  have h' : w.heap[b] = .cells c t f := by simpa [Array.getElem?_eq_getElem hlt] using h
  show (w.heap.modify b _)[b]? = _
  rw [Array.getElem?_eq_getElem (by simpa using hlt), Array.getElem_modify_self, h']
  rfl
theorem block_cell {w : World} {b : Nat} {c : Array Value} {t : TypeId} {f : Nat × Nat} (h : w.heap[b]? = some (.cells c t f)) (i : Nat) : w.cell? ⟨b, i, none⟩ = c[i]? := by simp [World.cell?, h]
theorem block_free {w : World} {b : Nat} {c : Array Value} {t : TypeId} (h : w.heap[b]? = some (.cells c t (0, 0))) (i : Nat) : w.frozen? ⟨b, i, none⟩ = false := by simp [World.frozen?, h]

end Go.Proofs.Ytlkfpeefjpmmfaa

namespace Go.Proofs.Ytlkfpeefjpmmfaa
open Go.RowKit
set_option linter.unusedVariables false

def StepS.cells (x : StepS) : List Value := [.int .i64 x.kind, .string x.name, .string x.undo, .int .i64 x.tries, .int .i64 x.undoTries, .int .i64 x.wait]
def StepS.val' (x : StepS) : Value := .agg #[.int .i64 x.kind, .string x.name, .string x.undo, .int .i64 x.tries, .int .i64 x.undoTries, .int .i64 x.wait]
theorem all_take {l : List UInt8} {i : Nat} (h : i < l.length) : (l.take (i + 1)).all byteB = ((l.take i).all byteB && byteB l[i]) := by
  rw [List.take_succ_eq_append_getElem h, List.all_append]
  simp
theorem all_no {l : List UInt8} {i : Nat} (h : i < l.length) (hb : byteB l[i] = false) : l.all byteB = false := by
  cases h2 : l.all byteB with
  | false => rfl
  | true => rw [List.all_eq_true.1 h2 _ (List.getElem_mem h)] at hb; cases hb
theorem byteB_eq (c : UInt8) : byteB c = !(decide ((c.toNat : Int) < 33) || decide ((126 : Int) < (c.toNat : Int))) := by
  unfold byteB
  have : c.toNat < 256 := c.toNat_lt
  by_cases h1 : 33 ≤ c.toNat <;> by_cases h2 : c.toNat ≤ 126 <;> simp [h1, h2] <;> omega

set_option maxHeartbeats 1000000 in
set_option maxRecDepth 100000 in
theorem rnamed_any (s : ByteArray) (hs : s.size ≤ maxLen) (w : World) :
    Calls Try.prog 46 #[.string s] w fun e w' => e = .returned (.bool (nameB s)) ∧ w' = w := by
  have hs2 : s.size ≤ 9223372036854775807 := by unfold maxLen at hs; omega
  have hl : s.data.toList.length = s.size := by simp
  have HNM : Hid (s.data.toList.all byteB = true → nameB s = (decide (1 ≤ s.size) && decide (s.size ≤ 16))) := fun h => by unfold nameB; rw [h]; rfl
  have HNO : Hid (s.data.toList.all byteB = false → nameB s = false) := fun h => by unfold nameB; rw [h]; rfl
  generalize nameB s = NB at *
  go_enter Try.func46, Try.ntmps46
  go_wp2
  go_loop [3] (fun iv => ∃ i : Nat, i ≤ s.size ∧ iv = .int .i64 (i : Int) ∧ Hid ((s.data.toList.take i).all byteB = true)) (fun iv => s.size - (intOf iv).toNat)
  case atStart => exact ⟨0, Nat.zero_le _, rfl, rfl⟩
  case round =>
    obtain ⟨i, hi, rfl, HA⟩ := hrel
    by_cases hlt : i < s.size
    · have HT := Lib.hid (all_take (l := s.data.toList) (i := i) (by omega))
      have HB := Lib.hid (all_no (l := s.data.toList) (i := i) (by omega))
      have hgi : s.data.toList[i]'(by omega) = s[i] := by simp; rfl
      rw [hgi] at HT HB
      have hbq := byteB_eq s[i]
      have hmes : s.size - (intOf (.int .i64 ((i : Int) + 1))).toNat < s.size - (intOf (.int .i64 (i : Int))).toNat := by simp [intOf]; omega
      by_cases h1 : ((s[i].toNat : Nat) : Int) < 33
      · have hb : byteB s[i] = false := by rw [hbq]; simp [h1]
        have HN := Lib.hid (HNO.out (HB.out hb))
        clear hbq hgi
        go_wp2
        go_ret
        exact ⟨by rw [HN.out]; rfl, rfl⟩
      · by_cases h2 : (126 : Int) < ((s[i].toNat : Nat) : Int)
        · have hb : byteB s[i] = false := by rw [hbq]; simp [h2]
          have HN := Lib.hid (HNO.out (HB.out hb))
          clear hbq hgi
          go_wp2
          go_ret
          exact ⟨by rw [HN.out]; rfl, rfl⟩
        · have hb : byteB s[i] = true := by rw [hbq]; simp [h1, h2]
          have HA2 : Hid ((s.data.toList.take (i + 1)).all byteB = true) := by show _ = _; rw [HT.out, HA.out, hb]; rfl
          clear hbq hgi
          go_wp2
          go_round
          case rel => exact ⟨i + 1, by omega, by go_num, HA2.out⟩
          case measure => exact hmes
    · obtain rfl : i = s.size := by omega
      have HN := Lib.hid (HNM.out (by have := HA.out; rwa [List.take_of_length_le (by omega)] at this))
      by_cases h1 : (1 : Int) ≤ (s.size : Int)
      · by_cases h2 : (s.size : Int) ≤ 16
        · go_wp2
          go_ret
          exact ⟨by rw [HN.out]; simp; omega, rfl⟩
        · go_wp2
          go_ret
          exact ⟨by rw [HN.out]; simp; omega, rfl⟩
      · go_wp2
        go_ret
        exact ⟨by rw [HN.out]; simp; omega, rfl⟩

set_option maxHeartbeats 1000000 in
theorem rin_any (n low high : Int) (w : World) :
    Calls Try.prog 96 #[.int .i64 n, .int .i64 low, .int .i64 high] w fun e w' => e = .returned (.bool (inB n low high)) ∧ w' = w := by
  have HI : Hid (inB n low high = (decide (low ≤ n) && decide (n ≤ high))) := rfl
  generalize inB n low high = IB at *
  go_enter Try.func96, Try.ntmps96
  by_cases h1 : low ≤ n
  · by_cases h2 : n ≤ high
    · go_wp2
      go_ret
      exact ⟨by rw [HI.out]; congr 1; simp; omega, rfl⟩
    · go_wp2
      go_ret
      exact ⟨by rw [HI.out]; congr 1; simp; omega, rfl⟩
  · go_wp2
    go_ret
    exact ⟨by rw [HI.out]; congr 1; simp; omega, rfl⟩
end Go.Proofs.Ytlkfpeefjpmmfaa

namespace Go.Proofs.Ytlkfpeefjpmmfaa
open Go.RowKit
set_option linter.unusedVariables false

theorem empty_iff (s : ByteArray) : s.toList = [] ↔ s.size = 0 := by
  rw [Lib.toList_data]
  constructor
  · intro h
    have := congrArg List.length h
    simpa using this
  · intro h
    exact List.eq_nil_of_length_eq_zero (by simpa using h)

theorem empty_dec (s : ByteArray) : s.toList.isEmpty = decide (s = ByteArray.empty) := by
  by_cases h : s = ByteArray.empty
  · subst h; rw [decide_eq_true rfl, List.isEmpty_iff]; exact (empty_iff _).2 rfl
  · have h2 : ¬ s.toList = [] := fun e => h (ba_zero ((empty_iff s).1 e))
    rw [decide_eq_false h]
    simpa using h2
theorem empty_size (s : ByteArray) : s.size = 0 ↔ s = ByteArray.empty := ⟨fun h => ba_zero h, fun h => by rw [h]; rfl⟩
theorem step_form (kind : Int) (name undo : ByteArray) (tries undoTries wait : Int) : stepB ⟨kind, name, undo, tries, undoTries, wait⟩ = if (kind == 1) = true then (if undo = ByteArray.empty then (undoTries == 0) else nameB undo && inB undoTries 1 5) && (nameB name && inB tries 1 5 && (wait == 0))
      else if (kind == 2) = true then decide (name = ByteArray.empty) && decide (undo = ByteArray.empty) && (tries == 0) && (undoTries == 0) && inB wait 1 1000
      else if (kind == 3) = true then nameB name && decide (undo = ByteArray.empty) && (tries == 0) && (undoTries == 0) && (wait == 0) else false := by
  unfold stepB undoB
  simp only [beq_iff_eq, empty_size]
  have e2 : ∀ n : Int, (n == 0) = decide (n = 0) := fun n => rfl
  simp only [e2]

set_option maxHeartbeats 4000000 in
set_option maxRecDepth 100000 in
theorem rstep_any (x : StepS) (hn : x.name.size ≤ maxLen) (hu : x.undo.size ≤ maxLen) (w : World) :
    Calls Try.prog 97 #[x.val'] w fun e w' => e = .returned (.bool (stepB x)) ∧ Below w.heap.size w w' := by
  obtain ⟨kind, name, undo, tries, undoTries, wait⟩ := x
  have HS : Hid (stepB ⟨kind, name, undo, tries, undoTries, wait⟩ = if (kind == 1) = true then (if undo = ByteArray.empty then (undoTries == 0) else nameB undo && inB undoTries 1 5) && (nameB name && inB tries 1 5 && (wait == 0))
      else if (kind == 2) = true then decide (name = ByteArray.empty) && decide (undo = ByteArray.empty) && (tries == 0) && (undoTries == 0) && inB wait 1 1000
      else if (kind == 3) = true then nameB name && decide (undo = ByteArray.empty) && (tries == 0) && (undoTries == 0) && (wait == 0) else false) := step_form _ _ _ _ _ _
  generalize stepB ⟨kind, name, undo, tries, undoTries, wait⟩ = SB at *
  have hb0 : Below w.heap.size w (w.alloc (.cells #[.int .i64 kind, .string name, .string undo, .int .i64 tries, .int .i64 undoTries, .int .i64 wait] 53)) := (Below.refl _ w).alloc (Nat.le_refl _) _
  have HB := Lib.hid hb0
  have hnw := heap_alloc_new w (.cells #[.int .i64 kind, .string name, .string undo, .int .i64 tries, .int .i64 undoTries, .int .i64 wait] 53)
  have c0 := (block_cell hnw 0).trans rfl
  have c1 := (block_cell hnw 1).trans rfl
  have c2 := (block_cell hnw 2).trans rfl
  have c3 := (block_cell hnw 3).trans rfl
  have c4 := (block_cell hnw 4).trans rfl
  have c5 := (block_cell hnw 5).trans rfl
  have heu := empty_iff undo
  have hen := empty_iff name
  unfold StepS.val'
  clear hb0 hnw
  go_enter Try.func97, Try.ntmps97
  go_wp2_with (first
    | (go_at_call 46; refine (rnamed_any _ (by first | exact hn | exact hu | decide) _).mono ?_; rintro e w1 ⟨rfl, rfl⟩)
    | (go_at_call 96; refine (rin_any _ _ _ _).mono ?_; rintro e w1 ⟨rfl, rfl⟩))
  all_goals go_ret
  all_goals clear c0 c1 c2 c3 c4 c5
  all_goals refine ⟨?_, (Below.refl _ w).alloc (Nat.le_refl _) _⟩
  all_goals rw [HS.out]
  all_goals clear HS HB
  all_goals first | (simp [*, empty_dec]; done) | (simp_all [empty_dec]; done)
end Go.Proofs.Ytlkfpeefjpmmfaa

namespace Go.Proofs.Ytlkfpeefjpmmfaa
open Go.RowKit
set_option linter.unusedVariables false

/-- Steps in a row that can be read. -/
def ReadG (w : World) (v : Value) (l : List StepS) : Prop :=
  l.length ≤ maxLen ∧ (∀ x ∈ l, x.name.size ≤ maxLen ∧ x.undo.size ≤ maxLen) ∧ ∃ a c, v = .slice a l.length c ∧ (l = [] ∨ ∃ b o, a = some ⟨b, o, none⟩ ∧ ∀ i (h : i < l.length), ∀ j u, l[i].cells[j]? = some u → w.cell? ⟨b, o + i * 6 + j, none⟩ = some u)
theorem ReadG.below {w w' : World} {v : Value} {l : List StepS} (h : ReadG w v l) (t : Below w.heap.size w w') : ReadG w' v l := by
  obtain ⟨h1, h2, a, c, rfl, h3⟩ := h
  refine ⟨h1, h2, a, c, rfl, ?_⟩
  rcases h3 with h3 | ⟨b, o, rfl, h3⟩
  · exact .inl h3
  · exact .inr ⟨b, o, rfl, fun i hi j u hu => (t.cell (World.block_lt_of_cell? w ⟨b, o + i * 6 + j, none⟩ (h3 i hi j u hu))).trans (h3 i hi j u hu)⟩
theorem ReadG.slice {w : World} {v : Value} {l : List StepS} (h : ReadG w v l) : ∃ a c, v = .slice a l.length c := by
  obtain ⟨_, _, a, c, h, _⟩ := h
  exact ⟨a, c, h⟩
theorem ReadG.at {w : World} {a : Option Addr} {n c : Nat} {l : List StepS} (h : ReadG w (.slice a n c) l) {i : Nat} (hi : i < l.length) :
    ∃ b o, a = some ⟨b, o, none⟩ ∧ w.cell? ⟨b, o + i * 6, none⟩ = some (.int .i64 l[i].kind) ∧ w.cell? ⟨b, o + i * 6 + 1, none⟩ = some (.string l[i].name) ∧ w.cell? ⟨b, o + i * 6 + 2, none⟩ = some (.string l[i].undo) ∧
      w.cell? ⟨b, o + i * 6 + 3, none⟩ = some (.int .i64 l[i].tries) ∧ w.cell? ⟨b, o + i * 6 + 4, none⟩ = some (.int .i64 l[i].undoTries) ∧ w.cell? ⟨b, o + i * 6 + 5, none⟩ = some (.int .i64 l[i].wait) ∧ l[i].name.size ≤ maxLen ∧ l[i].undo.size ≤ maxLen := by
  obtain ⟨_, h2, a', c', hv, h3⟩ := h
  injection hv with e1 e2 e3
  subst e1
  rcases h3 with h3 | ⟨b, o, rfl, h3⟩
  · subst h3; simp at hi
  · have hs := h2 l[i] (List.getElem_mem hi)
    exact ⟨b, o, rfl, h3 i hi 0 _ rfl, h3 i hi 1 _ rfl, h3 i hi 2 _ rfl, h3 i hi 3 _ rfl, h3 i hi 4 _ rfl, h3 i hi 5 _ rfl, hs.1, hs.2⟩
def ProgS.val' (p : ProgS) (a : Option Addr) (c : Nat) : Value := .agg #[.slice a p.steps.length c, .int .i64 p.limit]
theorem all_steps {l : List StepS} {i : Nat} (h : i < l.length) : (l.take (i + 1)).all stepB = ((l.take i).all stepB && stepB l[i]) := by
  rw [List.take_succ_eq_append_getElem h, List.all_append]
  simp
theorem all_not {l : List StepS} {i : Nat} (h : i < l.length) (hb : stepB l[i] = false) : l.all stepB = false := by
  cases h2 : l.all stepB with
  | false => rfl
  | true => rw [List.all_eq_true.1 h2 _ (List.getElem_mem h)] at hb; cases hb

set_option maxHeartbeats 4000000 in
set_option maxRecDepth 100000 in
theorem rright_any {w : World} {a : Option Addr} {c : Nat} (p : ProgS) (h : ReadG w (.slice a p.steps.length c) p.steps) :
    Calls Try.prog 86 #[p.val' a c] w fun e w' => e = .returned (.bool (progB p)) ∧ Below w.heap.size w w' := by
  obtain ⟨l, lim⟩ := p
  have hml : l.length ≤ 9223372036854775807 := by have := h.1; unfold maxLen at this; omega
  have HP : Hid (progB ⟨l, lim⟩ = (decide (l.length ≤ 16) && inB lim 0 16000 && l.all stepB)) := rfl
  generalize progB ⟨l, lim⟩ = PB at *
  have hb0 : Below w.heap.size w (w.alloc (.cells #[.slice a l.length c, .int .i64 lim] 26)) := (Below.refl _ w).alloc (Nat.le_refl _) _
  have hnw := heap_alloc_new w (.cells #[.slice a l.length c, .int .i64 lim] 26)
  have HNW := Lib.hid hnw
  have H := Lib.hid (h.below hb0)
  have HB := Lib.hid hb0
  have c0 := (block_cell hnw 0).trans rfl
  have c1 := (block_cell hnw 1).trans rfl
  unfold ProgS.val'
  simp only
  clear h hb0 hnw
  go_enter Try.func86, Try.ntmps86
  by_cases h16 : (16 : Int) < (l.length : Int)
  · go_wp2
    go_ret
    exact ⟨by rw [HP.out]; congr 1; simp; omega, HB.out⟩
  · go_wp2_with fail
    refine (rin_any _ _ _ _).mono ?_
    rintro e w1 ⟨rfl, rfl⟩
    by_cases hin : inB lim 0 16000 = true
    · rw [hin]
      have hin' : Hid (inB lim 0 16000 = true) := hin
      clear hin c1
      go_wp2
      generalize w.alloc (.cells #[.slice a l.length c, .int .i64 lim] 26) = w0 at *
      go_loopw [3] (fun iv wr => ∃ i : Nat, i ≤ l.length ∧ iv = .int .i64 (i : Int) ∧ Hid (Below w0.heap.size w0 wr ∧ (l.take i).all stepB = true)) (fun iv _ => l.length - (intOf iv).toNat)
      case atStart => exact ⟨0, Nat.zero_le _, rfl, Below.refl _ _, rfl⟩
      case round =>
        obtain ⟨i, hi, rfl, HI⟩ := hrel
        have hnw := (HI.out.1.block _ (block_lt HNW.out)).trans HNW.out
        have c0 : wr.cell? ⟨w.heap.size, 0, none⟩ = some (.slice a l.length c) := by rw [block_cell hnw]; rfl
        by_cases hlt : i < l.length
        · obtain ⟨b, o, rfl, q0, q1, q2, q3, q4, q5, s1, s2⟩ := (H.out.below HI.out.1).at hlt
          have HT := Lib.hid (all_steps hlt)
          have HN := Lib.hid (all_not hlt)
          have hmes : l.length - (intOf (.int .i64 ((i : Int) + 1))).toNat < l.length - (intOf (.int .i64 (i : Int))).toNat := by simp [intOf]; omega
          have hst := rstep_any l[i] s1 s2 wr
          generalize l[i] = x at *
          unfold StepS.val' at hst
          have HST := Lib.hid hst
          clear hst hnw
          go_wp2_with fail
          refine HST.out.mono ?_
          rintro e w2 ⟨rfl, b2⟩
          have HB2 := Lib.hid (HI.out.1.trans (b2.mono HI.out.1.size))
          by_cases hx : stepB x = true
          · rw [hx]
            have HA : Hid ((l.take (i + 1)).all stepB = true) := by show _ = _; rw [HT.out, HI.out.2, hx]; rfl
            clear hx q0 q1 q2 q3 q4 q5 c0 b2
            go_wp2
            go_roundw
            case rel => exact ⟨i + 1, by omega, by go_num, HB2.out, HA.out⟩
            case measure => exact hmes
          · rw [Bool.not_eq_true] at hx
            rw [hx]
            have HA := Lib.hid (HN.out hx)
            clear hx q0 q1 q2 q3 q4 q5 c0 b2
            go_wp2
            go_ret
            exact ⟨by rw [HP.out, HA.out]; simp, HB.out.trans (HB2.out.mono HB.out.size)⟩
        · obtain rfl : i = l.length := by omega
          have HA : Hid (l.all stepB = true) := by have := HI.out.2; rwa [List.take_length] at this
          clear hnw
          go_wp2
          go_ret
          exact ⟨by rw [HP.out, HA.out, hin'.out]; congr 1; simp; omega, HB.out.trans (HI.out.1.mono HB.out.size)⟩
    · rw [Bool.not_eq_true] at hin
      rw [hin]
      have hin' : Hid (inB lim 0 16000 = false) := hin
      clear hin
      go_wp2
      go_ret
      exact ⟨by rw [HP.out, hin'.out]; simp, HB.out⟩
end Go.Proofs.Ytlkfpeefjpmmfaa

namespace Go.Proofs.Ytlkfpeefjpmmfaa
open Go.RowKit
set_option linter.unusedVariables false

theorem infoU8 : (Try.prog.info? 5).map (fun i => (i.zero, i.size, i.bytes)) = some (some (.int .u8 0), 1, 1) := by kernel_rfl

/-- What is owned as bytes is turned into the text of these bytes. -/
theorem conv_own {w : World} {base : Nat} {v : Value} {l : List UInt8} (h : w.ownsRow base 5 1 v l.length (l.map bv)) :
    (convert 134 9 v).run Try.prog w = .ok (.string ⟨l.toArray⟩) w := by
  rcases h.2 with ⟨rfl, h0⟩ | ⟨g, cap, cur, rfl, _, hg, hle, _, hcs, htake⟩
  · obtain rfl : l = [] := List.length_eq_zero_iff.1 h0
    exact run_convert_bytes_nil w 134 5 Try.underlying134 Try.underlying5 0 0 _ Try.underlying9
  · have := run_convert_bytes_back (P := Try.prog) w 134 9 5 ⟨g, 0, none⟩ cap l Try.underlying134 Try.underlying5 Try.underlying9 (fun j hj => by
      rw [Addr.add_lit, cell_of_row w g _ cur _ _ hg]
      have : (cur.toList.take (l.length * 1))[j]? = (l.map bv)[j]? := by rw [htake]
      rw [List.getElem?_take, if_pos (by omega)] at this
      simp [List.getElem?_eq_getElem hj] at this
      simpa [bv] using this)
    exact this

theorem new_one (w : World) (x : Value) (t : TypeId) : ∀ j u, [x][j]? = some u → (w.alloc (.cells #[x] t)).cell? ((⟨w.heap.size, 0, none⟩ : Addr).add j) = some u := by
  intro j u h
  match j, h with
  | 0, h => simp at h; subst h; simp [Addr.add]

theorem one_new {k : IntKind} {x : Int} : ∀ u ∈ [Value.int k x], u.oneCell' = true := by intro u hu; simp at hu; subst hu; rfl

end Go.Proofs.Ytlkfpeefjpmmfaa

namespace Go.Proofs.Ytlkfpeefjpmmfaa
open Go.RowKit
set_option linter.unusedVariables false

end Go.Proofs.Ytlkfpeefjpmmfaa

/- Layer 3: boxes in memory. -/
import Derived.Test.YtlgpkbcefaldoaaDoorW00
import Derived.Test.YtlgpkbcefaldoaaDoorM03
import Derived.OneCell
import Derived.Lib.AppendStr
namespace Go.Proofs.YtlgpkbcefaldoaaDoor
open Go.RowKit Go.Maps Go.WideMaps
set_option linter.unusedVariables false

/-- w' is w but for the blocks of F, and for new ones. -/
structure Turn (F : Nat → Prop) (w w' : World) : Prop where
  os : w'.os = w.os
  tape : w'.tape = w.tape
  output : w'.output = w.output
  size : w.heap.size ≤ w'.heap.size
  block : ∀ k, k < w.heap.size → ¬ F k → w'.heap[k]? = w.heap[k]?

section
variable {F G : Nat → Prop} {a b c w w' : World} {B : Nat}

theorem Turn.refl (F : Nat → Prop) (w : World) : Turn F w w := ⟨rfl, rfl, rfl, Nat.le_refl _, fun _ _ _ => rfl⟩
theorem Turn.trans (h : Turn F a b) (k : Turn G b c) (hg : ∀ i, G i → F i ∨ a.heap.size ≤ i) : Turn F a c :=
  ⟨k.os.trans h.os, k.tape.trans h.tape, k.output.trans h.output, Nat.le_trans h.size k.size, fun i hi hf =>
    (k.block i (Nat.lt_of_lt_of_le hi h.size) (fun g => by rcases hg i g with h1 | h1; exact hf h1; omega)).trans (h.block i hi hf)⟩
theorem Turn.mono (h : Turn F a b) (hg : ∀ i, F i → G i ∨ a.heap.size ≤ i) : Turn G a b :=
  ⟨h.os, h.tape, h.output, h.size, fun i hi hf => h.block i hi (fun g => by rcases hg i g with h1 | h1; exact hf h1; omega)⟩
theorem Turn.of_below (F : Nat → Prop) (h : Below a.heap.size a b) : Turn F a b := ⟨h.os, h.tape, h.output, h.size, fun i hi _ => h.block i hi⟩
theorem Turn.below (h : Turn F a b) (hF : ∀ i, F i → B ≤ i) (hB : B ≤ a.heap.size) : Below B a b :=
  ⟨h.os, h.tape, h.output, h.size, fun i hi => h.block i (by omega) (fun g => by have := hF i g; omega)⟩
theorem Turn.drew (h : Turn F a w) : Turn F a w.drew := ⟨h.os, h.tape, h.output, h.size, h.block⟩
theorem Turn.alloc (h : Turn F a w) (o : Obj) : Turn F a (w.alloc o) :=
  ⟨h.os, h.tape, h.output, by have := h.size; simp; omega, fun i hi hf => (Below.heap_alloc _ _ _ (by have := h.size; omega)).trans (h.block i hi hf)⟩
theorem Turn.setCell (h : Turn F a w) {p : Addr} (hp : F p.block ∨ a.heap.size ≤ p.block) (v : Value) : Turn F a (w.setCell p v) :=
  ⟨h.os, h.tape, h.output, by have := h.size; simpa [World.setCell] using this, fun i hi hf => (Below.heap_setCell _ _ _ _ (fun e => by subst e; rcases hp with h1 | h1; exact hf h1; omega)).trans (h.block i hi hf)⟩
theorem Turn.grown (h : Turn F a w) {row : Option Nat} (hg : w.grownBy w' row) (hr : ∀ k, row = some k → F k ∨ a.heap.size ≤ k) : Turn F a w' :=
  ⟨hg.os.trans h.os, hg.tape.trans h.tape, hg.output.trans h.output, Nat.le_trans h.size hg.size, fun i hi hf =>
    (hg.block i (by have := h.size; omega) (fun e => by rcases hr i e.symm with h1 | h1; exact hf h1; omega)).trans (h.block i hi hf)⟩

theorem below_undrew {w w' : World} (h : Below w.drew.heap.size w.drew w') : Below w.heap.size w w' := ⟨h.os, h.tape, h.output, h.size, h.block⟩
theorem block_lt {w : World} {k : Nat} {o : Obj} (h : w.heap[k]? = some o) : k < w.heap.size := lt_of_block h
theorem Turn.keeps (h : Turn G w w') {k : Nat} {o : Obj} (hk : w.heap[k]? = some o) (hg : ¬ G k) : w'.heap[k]? = some o := (h.block k (block_lt hk) hg).trans hk
theorem Turn.row (h : Turn G w w') {base : Nat} {e : TypeId} {size : Nat} {v : Value} {n : Nat} {xs : List Value} (hr : w.ownsRow base e size v n xs) (hg : ∀ k, v.ownBlock = some k → ¬ G k) : w'.ownsRow base e size v n xs := by
  refine ⟨hr.1, ?_⟩
  rcases hr.2 with h1 | ⟨g, cap, cur, hv, hb, hgg, rest⟩
  · exact .inl h1
  · subst hv
    exact .inr ⟨g, cap, cur, rfl, hb, h.keeps hgg (hg g rfl), rest⟩
theorem Turn.map (h : Turn G w w') {P : Program} {k : TypeId} {R : Value → Option (DU × List MemPlace)} {b n : Nat} {D : DU} (hm : w.ownsMap P k R b n D) (hg : ¬ G b) : w'.ownsMap P k R b n D := by
  obtain ⟨es, clock, hb, r⟩ := hm
  exact ⟨es, clock, h.keeps hb hg, r⟩
end

/-- A store into a block of cells. -/
theorem block_set {w : World} {b : Nat} {c : Array Value} {t : TypeId} {f : Nat × Nat} (h : w.heap[b]? = some (.cells c t f)) (i : Nat) (v : Value) : (w.setCell ⟨b, i, none⟩ v).heap[b]? = some (.cells (c.setIfInBounds i v) t f) := by
  have hlt := block_lt h
  have h' : w.heap[b] = .cells c t f := by simpa [Array.getElem?_eq_getElem hlt] using h
  show (w.heap.modify b _)[b]? = _
  rw [Array.getElem?_eq_getElem (by simpa using hlt), Array.getElem_modify_self, h']
  rfl
theorem block_cell {w : World} {b : Nat} {c : Array Value} {t : TypeId} {f : Nat × Nat} (h : w.heap[b]? = some (.cells c t f)) (i : Nat) : w.cell? ⟨b, i, none⟩ = c[i]? := by simp [World.cell?, h]
theorem block_free {w : World} {b : Nat} {c : Array Value} {t : TypeId} (h : w.heap[b]? = some (.cells c t (0, 0))) (i : Nat) : w.frozen? ⟨b, i, none⟩ = false := by simp [World.frozen?, h]

/-- What a pointer to a file reads as. -/
def ptrR (v : Value) : Option (DU × List MemPlace) :=
  match v with
  | .pointer none => some (.nil, [])
  | .pointer (some ⟨b, 0, none⟩) => some (.lit (.int .i64 (b : Int)), [])
  | _ => none
theorem ptrR_nil {v : Value} {ps : List MemPlace} (h : ptrR v = some (.nil, ps)) : v = .pointer none := by
  unfold ptrR at h
  split at h
  · rfl
  · simp at h
  · cases h
theorem ptrR_at {v : Value} {q : Nat} {ps : List MemPlace} (h : ptrR v = some (.lit (.int .i64 (q : Int)), ps)) : v = .pointer (some ⟨q, 0, none⟩) := by
  unfold ptrR at h
  split at h
  · simp at h
  · rename_i b
    simp only [Option.some.injEq, Prod.mk.injEq, DataW.lit.injEq, Lit.int.injEq, true_and] at h
    have : b = q := by omega
    rw [this]
  · cases h

/-- A file as it lies in memory. -/
structure EntM where
  file : FileS
  blk : Nat
  row : Value

structure FileAt (w : World) (F : Nat → Prop) (e : EntM) : Prop where
  head : w.heap[e.blk]? = some (.cells #[e.row, .int .i64 (e.file.dur : Int)] 63 (0, 0))
  row : w.ownsRow 0 5 1 e.row e.file.bytes.length (e.file.bytes.map bv)
  dur : e.file.dur ≤ e.file.bytes.length
  fblk : F e.blk
  frow : ∀ k, e.row.ownBlock = some k → F k

def Apart (a b : Key × EntM) : Prop := a.2.blk ≠ b.2.blk ∧ ∀ k, a.2.row.ownBlock = some k → b.2.row.ownBlock ≠ some k
theorem Apart.symm {a b : Key × EntM} (h : Apart a b) : Apart b a := ⟨h.1.symm, fun k hb ha => h.2 k ha hb⟩

structure FilesAt (w : World) (F : Nat → Prop) (es : List (Key × EntM)) : Prop where
  each : ∀ x ∈ es, FileAt w F x.2 ∧ nameOK x.1 = true
  apart : es.Pairwise Apart

section
variable {F G : Nat → Prop} {w w' : World}
theorem FileAt.kept {e : EntM} (h : FileAt w F e) (t : Turn G w w') (hd : ∀ k, F k → ¬ G k) : FileAt w' F e :=
  ⟨t.keeps h.head (hd _ h.fblk), t.row h.row (fun k hk => hd _ (h.frow k hk)), h.dur, h.fblk, h.frow⟩
theorem FileAt.mono {e : EntM} (h : FileAt w F e) (hd : ∀ k, F k → G k) : FileAt w G e := ⟨h.head, h.row, h.dur, hd _ h.fblk, fun k hk => hd _ (h.frow k hk)⟩
theorem FilesAt.kept {es : List (Key × EntM)} (h : FilesAt w F es) (t : Turn G w w') (hd : ∀ k, F k → ¬ G k) : FilesAt w' F es :=
  ⟨fun x hx => ⟨(h.each x hx).1.kept t hd, (h.each x hx).2⟩, h.apart⟩
theorem FilesAt.mono {es : List (Key × EntM)} (h : FilesAt w F es) (hd : ∀ k, F k → G k) : FilesAt w G es :=
  ⟨fun x hx => ⟨(h.each x hx).1.mono hd, (h.each x hx).2⟩, h.apart⟩

/-- A box's own block. -/
def HeadAt (w : World) (p m : Nat) (fuel : Int) (down : Bool) : Prop := w.heap[p]? = some (.cells #[.map (some m), .int .i64 fuel, .bool down] 50 (0, 0))
def MapAt (w : World) (m : Nat) (es : List (Key × EntM)) : Prop := w.ownsMap Tryd.prog 9 ptrR m es.length (toD (mapK EntM.blk es))

/-- A box in memory: its own block, its map's, and its files'. All it has lies in F. -/
structure BoxIn (w : World) (p m : Nat) (es : List (Key × EntM)) (S : Bx) (F : Nat → Prop) : Prop where
  head : HeadAt w p m S.fuel S.down
  map : MapAt w m es
  files : S.files = mapK EntM.file es
  mem : FilesAt w F es
  fp : F p
  fm : F m
  lo : -9223372036854775808 ≤ S.fuel
  hi : S.fuel ≤ 9223372036854775807
def BoxAt (w : World) (p : Nat) (S : Bx) (F : Nat → Prop) : Prop := ∃ m es, BoxIn w p m es S F

theorem BoxIn.kept {p m : Nat} {es : List (Key × EntM)} {S : Bx} (h : BoxIn w p m es S F) (t : Turn G w w') (hd : ∀ k, F k → ¬ G k) : BoxIn w' p m es S F :=
  ⟨t.keeps h.head (hd _ h.fp), t.map h.map (hd _ h.fm), h.files, h.mem.kept t hd, h.fp, h.fm, h.lo, h.hi⟩
theorem BoxAt.kept {p : Nat} {S : Bx} (h : BoxAt w p S F) (t : Turn G w w') (hd : ∀ k, F k → ¬ G k) : BoxAt w' p S F := by
  obtain ⟨m, es, h⟩ := h
  exact ⟨m, es, h.kept t hd⟩
theorem BoxIn.mono {p m : Nat} {es : List (Key × EntM)} {S : Bx} (h : BoxIn w p m es S F) (hd : ∀ k, F k → G k) : BoxIn w p m es S G :=
  ⟨h.head, h.map, h.files, h.mem.mono hd, hd _ h.fp, hd _ h.fm, h.lo, h.hi⟩
theorem BoxAt.mono {p : Nat} {S : Bx} (h : BoxAt w p S F) (hd : ∀ k, F k → G k) : BoxAt w p S G := by
  obtain ⟨m, es, h⟩ := h
  exact ⟨m, es, h.mono hd⟩
theorem BoxIn.below {p m : Nat} {es : List (Key × EntM)} {S : Bx} (h : BoxIn w p m es S F) (t : Below w.heap.size w w') : BoxIn w' p m es S F :=
  h.kept (Turn.of_below (fun _ => False) t) (fun _ _ h => h)
theorem BoxAt.below {p : Nat} {S : Bx} (h : BoxAt w p S F) (t : Below w.heap.size w w') : BoxAt w' p S F :=
  h.kept (Turn.of_below (fun _ => False) t) (fun _ _ h => h)
theorem BoxIn.rising {p m : Nat} {es : List (Key × EntM)} {S : Bx} (h : BoxIn w p m es S F) : Rising es :=
  (rising_map EntM.blk).1 (rising_of_canon (h.map.canon (string_keyed Tryd.underlying9)))
end

theorem HeadAt.lt {w : World} {p m : Nat} {f : Int} {d : Bool} (h : HeadAt w p m f d) : p < w.heap.size := block_lt h
theorem HeadAt.c0 {w : World} {p m : Nat} {f : Int} {d : Bool} (h : HeadAt w p m f d) : w.cell? ⟨p, 0, none⟩ = some (.map (some m)) := by rw [block_cell h]; rfl
theorem HeadAt.c1 {w : World} {p m : Nat} {f : Int} {d : Bool} (h : HeadAt w p m f d) : w.cell? ⟨p, 1, none⟩ = some (.int .i64 f) := by rw [block_cell h]; rfl
theorem HeadAt.c2 {w : World} {p m : Nat} {f : Int} {d : Bool} (h : HeadAt w p m f d) : w.cell? ⟨p, 2, none⟩ = some (.bool d) := by rw [block_cell h]; rfl
theorem HeadAt.free {w : World} {p m : Nat} {f : Int} {d : Bool} (h : HeadAt w p m f d) (i : Nat) : w.frozen? ⟨p, i, none⟩ = false := block_free h i
theorem HeadAt.setDown {w : World} {p m : Nat} {f : Int} {d : Bool} (h : HeadAt w p m f d) (d' : Bool) : HeadAt (w.setCell ⟨p, 2, none⟩ (.bool d')) p m f d' := block_set h 2 _
theorem HeadAt.setFuel {w : World} {p m : Nat} {f : Int} {d : Bool} (h : HeadAt w p m f d) (f' : Int) : HeadAt (w.setCell ⟨p, 1, none⟩ (.int .i64 f')) p m f' d := block_set h 1 _

/-- The look-up of a file. -/
theorem MapAt.look {w : World} {m : Nat} {es : List (Key × EntM)} (h : MapAt w m es) (s : ByteArray) (hs : s.size ≤ maxLen) :
    (Instr.lookup 48 (.map (some m)) (.string s) false).run Tryd.prog w = .ok (.pointer ((findK s.data.toList es).map fun e => ⟨e.blk, 0, none⟩)) w := by
  obtain ⟨v, ps, hrun, hv⟩ := World.ownsMap.lookup h (string_keyed Tryd.underlying9) Tryd.underlying48 (z := .pointer none) (zd := .nil) (zp := []) (by kernel_rfl) rfl (keyOf_string_mk Tryd.underlying9 hs)
  have hv' : v = .pointer ((findK s.data.toList es).map fun e => ⟨e.blk, 0, none⟩) := by
    rw [toD_at, findK_map] at hv
    cases hf : findK s.data.toList es with
    | none => rw [hf] at hv; exact ptrR_nil hv
    | some e => rw [hf] at hv; exact ptrR_at hv
  rw [hv'] at hrun
  exact hrun

end Go.Proofs.YtlgpkbcefaldoaaDoor

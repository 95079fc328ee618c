/- Layer 3: the calls of its laws, in memory. -/
import Derived.Test.YtnjphflaggefeaaW03h
namespace Go.Proofs.Ytnjphflaggefeaa
open Go.RowKit Go.Maps Go.WideMaps
set_option linter.unusedVariables false

structure CallS where
  kind : Int
  name : ByteArray
  data : ByteArray
  num : Int
  keep : Value
  ks : List Int
instance : Inhabited CallS := ⟨⟨0, ⟨#[]⟩, ⟨#[]⟩, 0, .slice none 0 0, []⟩⟩

structure CallCells (W : World) (a : Addr) (i : Nat) (c : CallS) : Prop where
  c0 : W.cell? (a.add (i * 5)) = some (.int .i64 c.kind)
  c1 : W.cell? (a.add (i * 5 + 1)) = some (.string c.name)
  c2 : W.cell? (a.add (i * 5 + 2)) = some (.string c.data)
  c3 : W.cell? (a.add (i * 5 + 3)) = some (.int .i64 c.num)
  c4 : W.cell? (a.add (i * 5 + 4)) = some c.keep
structure CallOK (W : World) (c : CallS) : Prop where
  k : -9223372036854775808 ≤ c.kind ∧ c.kind ≤ 9223372036854775807
  n : -9223372036854775808 ≤ c.num ∧ c.num ≤ 9223372036854775807
  ks : IntsAt (fun k => W.heap.size ≤ k) W c.keep c.ks
structure CallsRow (W : World) (a : Option Addr) (cs : List CallS) : Prop where
  max : cs.length ≤ 9223372036854775807
  row : cs.length = 0 ∨ ∃ b off, a = some ⟨b, off, none⟩ ∧ b < W.heap.size ∧ ∀ i (h : i < cs.length), CallCells W ⟨b, off, none⟩ i cs[i] ∧ CallOK W cs[i]

/-- How much calls hold. -/
def callsW (cs : List CallS) : Nat := (cs.map fun c => c.name.size + c.data.size + c.ks.length + 1).sum
theorem callsW_append (a b : List CallS) : callsW (a ++ b) = callsW a + callsW b := by simp [callsW]
theorem callsW_take {cs : List CallS} {k : Nat} (h : k < cs.length) : callsW (cs.take (k + 1)) = callsW (cs.take k) + (cs[k].name.size + cs[k].data.size + cs[k].ks.length + 1) := by
  rw [List.take_succ_eq_append_getElem h, callsW_append]; simp [callsW]
theorem callsW_mono (cs : List CallS) (k : Nat) : callsW (cs.take k) ≤ callsW cs := by
  have : callsW cs = callsW (cs.take k) + callsW (cs.drop k) := by rw [← callsW_append, List.take_append_drop]
  omega
theorem callsW_len (cs : List CallS) : cs.length ≤ callsW cs := by
  induction cs with
  | nil => simp [callsW]
  | cons c r ih => simp only [callsW, List.map_cons, List.sum_cons, List.length_cons] at *; omega

theorem CallsRow.at {W w : World} {a : Option Addr} {cs : List CallS} (h : CallsRow W a cs) (hb : Below W.heap.size W w) {k : Nat} (hk : k < cs.length) :
    ∃ b off, a = some ⟨b, off, none⟩ ∧ w.cell? ⟨b, off + k * 5, none⟩ = some (.int .i64 cs[k].kind) ∧ w.cell? ⟨b, off + k * 5 + 1, none⟩ = some (.string cs[k].name) ∧ w.cell? ⟨b, off + k * 5 + 2, none⟩ = some (.string cs[k].data) ∧
      w.cell? ⟨b, off + k * 5 + 3, none⟩ = some (.int .i64 cs[k].num) ∧ w.cell? ⟨b, off + k * 5 + 4, none⟩ = some cs[k].keep ∧ CallOK W cs[k] := by
  rcases h.row with h0 | ⟨b, off, ha, hlt, hc⟩
  · omega
  · obtain ⟨⟨c0, c1, c2, c3, c4⟩, ok⟩ := hc k hk
    rw [Addr.add_lit] at c0 c1 c2 c3 c4
    refine ⟨b, off, ha, (hb.cell (p := ⟨b, _, none⟩) hlt).trans c0, ?_, ?_, ?_, ?_, ok⟩
    · rw [Nat.add_assoc]; exact (hb.cell (p := ⟨b, _, none⟩) hlt).trans c1
    · rw [Nat.add_assoc]; exact (hb.cell (p := ⟨b, _, none⟩) hlt).trans c2
    · rw [Nat.add_assoc]; exact (hb.cell (p := ⟨b, _, none⟩) hlt).trans c3
    · rw [Nat.add_assoc]; exact (hb.cell (p := ⟨b, _, none⟩) hlt).trans c4

end Go.Proofs.Ytnjphflaggefeaa

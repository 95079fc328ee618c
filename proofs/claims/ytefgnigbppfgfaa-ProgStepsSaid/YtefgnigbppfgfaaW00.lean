/- What no layer is named in: bytes that are owned, as a text; one new cell. -/
import Derived.Test.YtefgnigbppfgfaaM01
import Derived.Test.YtefgnigbppfgfaaRows
import Derived.Laws.IdiomStrings
import Derived.Outline
import Derived.WalkSmall
namespace Go.Proofs.Ytefgnigbppfgfaa
open Go.RowKit
set_option linter.unusedVariables false

theorem infoU8 : (Try.prog.info? 5).map (fun i => (i.zero, i.size, i.bytes)) = some (some (.int .u8 0), 1, 1) := by kernel_rfl

/-- What is owned as bytes is turned into the text of these bytes. -/
theorem conv_own {w : World} {base : Nat} {v : Value} {l : List UInt8} (h : w.ownsRow base 5 1 v l.length (l.map bv)) :
    (convert 64 9 v).run Try.prog w = .ok (.string ⟨l.toArray⟩) w := by
  rcases h.2 with ⟨rfl, h0⟩ | ⟨g, cap, cur, rfl, _, hg, hle, _, hcs, htake⟩
  · obtain rfl : l = [] := List.length_eq_zero_iff.1 h0
    exact run_convert_bytes_nil w 64 5 Try.underlying64 Try.underlying5 0 0 _ Try.underlying9
  · have := run_convert_bytes_back (P := Try.prog) w 64 9 5 ⟨g, 0, none⟩ cap l Try.underlying64 Try.underlying5 Try.underlying9 (fun j hj => by
      rw [Addr.add_lit, cell_of_row w g _ cur _ _ hg]
      have : (cur.toList.take (l.length * 1))[j]? = (l.map bv)[j]? := by rw [htake]
      rw [List.getElem?_take, if_pos (by omega)] at this
      simp [List.getElem?_eq_getElem hj] at this
      simpa [bv] using this)
    exact this

theorem new_one (w : World) (x : Value) (t : TypeId) : ∀ j u, [x][j]? = some u → (w.alloc (.cells #[x] t)).cell? ((⟨w.heap.size, 0, none⟩ : Addr).add j) = some u := by
  intro j u h
  match j, h with
  | 0, h => simp at h; subst h; simp [Addr.add]

theorem one_new {k : IntKind} {x : Int} : ∀ u ∈ [Value.int k x], u.oneCell' = true := by intro u hu; simp at hu; subst hu; rfl

end Go.Proofs.Ytefgnigbppfgfaa

/- A row of texts that came in is appended to one of the call's own. -/
import Derived.Test.YtfnbkmmfaaklnaaDoorM01t
import Derived.Test.YtfnbkmmfaaklnaaDoorW00
import Derived.Laws.AppendOwnNone
namespace Go.Proofs.YtfnbkmmfaaklnaaDoor
open Go.RowKit
set_option linter.unusedVariables false

theorem infoStr6 : (Tryd.prog.info? 9).map (fun i => (i.zero, i.size, i.bytes)) = some (some (.string ⟨#[]⟩), 1, 16) := by kernel_rfl
def txs6 (l : List ByteArray) : List Value := l.map fun s => .string s

set_option maxRecDepth 100000 in
/-- Texts that came in are appended to a row of the call's own. -/
theorem wpList_append_texts {w : World} {ops : Array Oper} {rest : List Oper} {o : Oper} {a : Act} {Q : Exit → Act → World → Prop} (hgd : o.guard = none) (s x : Operand)
    (ho : o.op = .call { callee := .builtin .append, args := #[s, x], argTypes := #[22, 22] })
    (base : Nat) (v : Value) (n : Nat) (xs : List Value) (hs : a.eval s = v) (hown : w.ownsRow base 9 1 v n xs)
    (a' : Option Addr) (c : Nat) (ks : List ByteArray) (hx : a.eval x = .slice a' ks.length c) (hr : Row1 w a' ks.length (fun i => .string (ks.getD i ByteArray.empty))) (hnil : a' = none → c = 0)
    (hb : (n + ks.length) * 16 ≤ 140737488355328) (hbase : base ≤ w.heap.size)
    (h : ∀ v' w', w'.ownsRow base 9 1 v' (n + ks.length) (xs ++ txs6 ks) → w.grownBy w' v.ownBlock → wpList Tryd.prog ops Q rest (a.put o.dst v') w') : wpList Tryd.prog ops Q (o :: rest) a w := by
  obtain ⟨i0, hi, hz0, hz1, hz2⟩ := info_parts infoStr6
  have one : ∀ u ∈ txs6 ks, u.oneCell' = true := fun u hu => by obtain ⟨y, _, rfl⟩ := List.mem_map.1 hu; rfl
  have hl : (txs6 ks).length = ks.length * 1 := by simp [txs6]
  cases a' with
  | none =>
    have hc := hnil rfl
    subst hc
    rcases hr.row with h0 | ⟨b, off, hab, _⟩
    · have hk : ks = [] := List.eq_nil_of_length_eq_zero h0
      subst hk
      exact wpList_append_own_none hgd s x 22 ho base 9 i0 1 Tryd.underlying22 hi v n xs hs hown hx (h v w (by simpa [txs6] using hown) (World.grownBy.refl w _))
    · cases hab
  | some ad =>
    refine wpList_append_own w hgd s x 22 ho base 9 i0 (.string ⟨#[]⟩) 1 16 Tryd.underlying22 hi hz0 hz1 hz2 rfl (by decide) v n xs hs hown ad ks.length c (txs6 ks) hx hl (fun j u hj => ?_) one (by unfold maxLen; omega) (by omega) hbase (fun v' w' h2 h3 _ => h v' w' h2 h3)
    have hjl : j < ks.length := by
      have := (List.getElem?_eq_some_iff.1 hj).1
      simpa [txs6] using this
    rcases hr.row with h0 | ⟨b, off, hab, hbl, hc⟩
    · omega
    · injection hab with hab
      subst hab
      rw [Addr.add_lit, hc j hjl]
      have : (txs6 ks)[j]? = some (.string ks[j]) := by simp [txs6, hjl]
      rw [this] at hj
      injection hj with hj
      subst hj
      simp [List.getD, hjl]
end Go.Proofs.YtfnbkmmfaaklnaaDoor

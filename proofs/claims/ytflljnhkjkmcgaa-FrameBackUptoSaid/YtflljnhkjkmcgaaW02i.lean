/- Layer 2: the walk of FrameNexts. -/
import Derived.Test.YtflljnhkjkmcgaaW02f
namespace Go.Proofs.Ytflljnhkjkmcgaa
open Go.RowKit
set_option linter.unusedVariables false

theorem row1_owns {w : World} {base n : Nat} {v : Value} {l : List (List UInt8)} (h : w.ownsRow base 9 1 v n (l.map tx)) (hl : l.length = n) (hn : n ≤ 9223372036854775807) :
    ∃ a cap, v = .slice a n cap ∧ Row1 w a n (fun i => tx (l.getD i [])) := by
  rcases h.2 with ⟨rfl, h0⟩ | ⟨g, cap, cur, rfl, _, hg, hle, _, hcs, htake⟩
  · subst h0
    exact ⟨none, 0, rfl, by omega, .inl rfl⟩
  · have hc : ∀ i, i < n → w.cell? ⟨g, 0 + i, none⟩ = some (tx (l.getD i [])) := by
      intro i hi
      rw [cell_of_row w g _ cur _ _ hg]
      have : (cur.toList.take (n * 1))[0 + i]? = (l.map tx)[0 + i]? := by rw [htake]
      rw [List.getElem?_take, if_pos (by omega)] at this
      rw [← Array.getElem?_toList, this]
      simp [List.getD, hl, hi]
    refine ⟨some ⟨g, 0, none⟩, cap, rfl, hn, ?_⟩
    by_cases h0 : n = 0
    · exact .inl h0
    · exact .inr ⟨g, 0, rfl, World.block_lt_of_cell? w ⟨g, 0 + 0, none⟩ (hc 0 (by omega)), hc⟩

theorem Row1.below {w w' : World} {a : Option Addr} {n : Nat} {V : Nat → Value} (h : Row1 w a n V) (hb : Below w.heap.size w w') : Row1 w' a n V := by
  refine ⟨h.max, ?_⟩
  rcases h.row with h0 | ⟨b, off, ha, hlt, hc⟩
  · exact .inl h0
  · exact .inr ⟨b, off, ha, Nat.lt_of_lt_of_le hlt hb.size, fun i hi => (hb.cell (p := ⟨b, off + i, none⟩) hlt).trans (hc i hi)⟩

theorem next_det {s : ByteArray} {e e' : Ending} (h : NextEnd s e) (h' : NextEnd s e') : e' = e := by
  rcases h with ⟨a, r, h, rfl⟩ | ⟨k, hk, h, rfl⟩ <;> rcases h' with ⟨a', r', h', rfl⟩ | ⟨k', hk', h', rfl⟩
  · have h2 := h'.symm.trans h
    simp only [Prod.mk.injEq, true_and] at h2
    rw [show a' = a from ByteArray.ext (Array.toList_inj.1 h2.1), show r' = r from ByteArray.ext (Array.toList_inj.1 h2.2)]
  · have h2 := h'.symm.trans h
    simp only [Prod.mk.injEq] at h2
    omega
  · have h2 := h'.symm.trans h
    simp only [Prod.mk.injEq] at h2
    omega
  · have h2 := h'.symm.trans h
    simp only [Prod.mk.injEq, and_true] at h2
    rw [h2]

theorem next_form {s : ByteArray} {e : Ending} (h : NextEnd s e) : ∃ (a r : ByteArray) (k : Nat), e = .returned (.tuple #[.string a, .string r, .int .i64 (k : Int)]) := by
  rcases h with ⟨a, r, h, rfl⟩ | ⟨k, hk, h, rfl⟩
  · exact ⟨a, r, 0, rfl⟩
  · exact ⟨_, _, k, rfl⟩

theorem scanL_small (l : List UInt8) : 5 * (scanL l).1.length ≤ l.length := by
  generalize hn : l.length = n
  induction n using Nat.strongRecOn generalizing l with
  | _ n ih =>
    by_cases h : (nextL l).1 = 0
    · have hl := (nextL_less h).1
      have hx : nextL l = (0, (nextL l).2.1, (nextL l).2.2) := by rw [← h]
      rw [scanL_ok hx]
      have := ih (nextL l).2.2.length (by omega) _ rfl
      simp only [List.length_cons]; omega
    · rw [scanL_bad h]; simp

theorem sameB_refl (l : List (List UInt8)) : sameB l l = true := beq_self_eq_true _

set_option maxHeartbeats 1000000 in
set_option maxRecDepth 100000 in
theorem nexts_walk (s : ByteArray) (hs : s.size ≤ 1048576) (w : World) :
    Calls Try.prog 4 #[.string s] w fun e w' => e = .returned (.bool true) ∧ Below w.heap.size w w' := by
  go_enter Try.func4, Try.ntmps4
  go_wp2_with fail
  refine (awake_any _).mono ?_
  rintro e w1 ⟨rfl, hb1⟩
  go_wp2_with fail
  refine (next_any _ (by omega) _).mono ?_
  rintro e w2 ⟨he, hb2⟩
  have HE := Lib.hid he
  obtain ⟨a, r, k, rfl⟩ := next_form he
  clear he
  have hb3 := below_next hb1 (Nat.le_refl _) hb2
  clear hb1 hb2
  go_wp2_with fail
  refine (rnext_any _ (by omega) _).mono ?_
  rintro e w3 ⟨he, hb4⟩
  obtain rfl := next_det HE.out he
  clear he
  have hb5 := below_next hb3 (Nat.le_refl _) hb4
  clear hb3 hb4
  go_wp2_with fail
  refine (scan_any _ (by omega) _).mono ?_
  rintro e w4 ⟨v1, rfl, ho1, hb6⟩
  have hb7 := below_next hb5 (Nat.le_refl _) hb6
  clear hb5 hb6
  go_wp2_with fail
  refine (rscan_any _ (by omega) _).mono ?_
  rintro e w5 ⟨v2, rfl, ho2, hb8⟩
  have hb9 := below_next hb7 (Nat.le_refl _) hb8
  have ho3 := ownsRow_below ho1 hb8
  clear hb7 hb8 ho1
  have hsm := scanL_small s.data.toList
  simp only [Array.length_toList] at hsm
  have e1 : s.data.size = s.size := rfl
  obtain ⟨a1, c1, rfl, hr1⟩ := row1_owns ho3 rfl (by omega)
  obtain ⟨a2, c2, rfl, hr2⟩ := row1_owns ho2 rfl (by omega)
  clear ho2 ho3
  have hS := sameB_refl (scanL s.data.toList).1
  go_wp2_with fail
  refine (same_any _ _ _ _ _ _ _ _ _ rfl rfl hr1 hr2).mono ?_
  rintro e w6 ⟨rfl, n, rfl⟩
  rw [hS]
  clear hr1 hr2 hS
  go_wp2
  go_ret
  exact ⟨rfl, below_drewN hb9 _⟩
end Go.Proofs.Ytflljnhkjkmcgaa

/- Layer 11: the walk of RingFew. -/
import Derived.Test.YtfnbkmmfaaklnaaDoorR11
import Derived.Test.YtfnbkmmfaaklnaaDoorI06
namespace Go.Proofs.YtfnbkmmfaaklnaaDoor
open Go.RowKit
set_option linter.unusedVariables false

theorem row1_own {w : World} {base : Nat} {v : Value} {ks : List ByteArray} (h : w.ownsRow base 9 1 v ks.length (txs6 ks)) (hm : ks.length ≤ 9223372036854775807) : ∃ a c, v = .slice a ks.length c ∧ Row1 w a ks.length (fun i => .string (ks.getD i ByteArray.empty)) := by
  have hr := h
  rcases h.2 with ⟨rfl, h0⟩ | ⟨g, cap, cur, rfl, _, hg, hle, hcm, _⟩
  · exact ⟨none, 0, by rw [h0], ⟨by omega, .inl h0⟩⟩
  · refine ⟨some ⟨g, 0, none⟩, cap, rfl, ⟨by omega, .inr ⟨g, 0, rfl, block_lt hg, fun i hi => ?_⟩⟩⟩
    rw [Nat.zero_add]
    refine (hr.cellAt i (by omega)).trans ?_
    have : (txs6 ks)[i]? = some (.string ks[i]) := by simp [txs6, hi]
    rw [this]
    simp [List.getD, hi]
theorem sizes_two {a b : List ByteArray} {z : Nat} (ha : ∀ i, (a.getD i ByteArray.empty).size ≤ z) (hb : ∀ i, (b.getD i ByteArray.empty).size ≤ z) : ∀ i, ((a ++ b).getD i ByteArray.empty).size ≤ z := fun i => by
  by_cases h : i < a.length
  · have : (a ++ b).getD i ByteArray.empty = a.getD i ByteArray.empty := by simp [List.getD, List.getElem?_append_left h]
    rw [this]; exact ha i
  · have : (a ++ b).getD i ByteArray.empty = b.getD (i - a.length) ByteArray.empty := by simp [List.getD, List.getElem?_append_right (Nat.le_of_not_lt h)]
    rw [this]; exact hb _
theorem sizes_one (s : ByteArray) (h : s.size ≤ maxLen) : ∀ i, ([s].getD i ByteArray.empty).size ≤ maxLen
  | 0 => h
  | i + 1 => Nat.zero_le _
theorem row1_one {w : World} (s : ByteArray) : Row1 (w.alloc (.cells #[.string s] 9)) (some ⟨w.heap.size, 0, none⟩) [s].length (fun i => .string ([s].getD i ByteArray.empty)) := by
  refine ⟨by simp, .inr ⟨w.heap.size, 0, rfl, by simp, fun i hi => ?_⟩⟩
  rw [block_cell (heap_alloc_new _ _)]
  match i, hi with
  | 0, _ => rfl
theorem row1_up {W w : World} {a : Option Addr} {len : Nat} {V : Nat → Value} (h : Row1 W a len V) (b : Below W.heap.size W w) : Row1 w a len V := ⟨h.max, by
    rcases h.row with h0 | ⟨b', off, ha, hb, hc⟩
    · exact .inl h0
    · exact .inr ⟨b', off, ha, Nat.lt_of_lt_of_le hb b.size, fun i hi => (b.cell (p := ⟨b', off + i, none⟩) hb).trans (hc i hi)⟩⟩
theorem own_cell {w : World} (s : ByteArray) (base : Nat) (hb : base ≤ w.heap.size) : (w.alloc (.cells #[.string s] 9)).ownsRow base 9 1 (.slice (some ⟨w.heap.size, 0, none⟩) 1 1) 1 (txs6 [s]) :=
  ⟨rfl, .inr ⟨w.heap.size, 1, #[.string s], rfl, hb, heap_alloc_new _ _, Nat.le_refl _, by decide, rfl, rfl⟩⟩

set_option maxHeartbeats 2000000 in
set_option maxRecDepth 100000 in
theorem few11_walk {w : World} (ht : Tab w) (a : Option Addr) (c : Nat) (ks : List ByteArray) (more key : ByteArray) (h : Row1 w a ks.length (fun i => .string (ks.getD i ByteArray.empty))) (hnil : a = none → c = 0) (hs : ∀ i, (ks.getD i ByteArray.empty).size ≤ 140737488351232) (hl : ks.length * 16 ≤ 140737488351232) (hm : more.size ≤ 140737488351232) (hk : key.size ≤ 140737488351232) :
    Calls Tryd.prog 4 #[.slice a ks.length c, .string more, .string key] w fun e w' => e = .returned (.bool true) ∧ Below w.heap.size w w' := by
  have hk' : key.size ≤ maxLen := by unfold maxLen; omega
  have hm' : more.size ≤ maxLen := by unfold maxLen; omega
  have hs' : ∀ i, (ks.getD i ByteArray.empty).size ≤ maxLen := fun i => by have := hs i; unfold maxLen; omega
  have HT := Lib.hid ht
  have H := Lib.hid h
  have HNil := Lib.hid hnil
  have HS1 := Lib.hid hs'
  have HS2 := Lib.hid (sizes_two hs' (sizes_one more hm'))
  have HS3 := Lib.hid (sizes_two (sizes_one more hm') hs')
  have hlt : ∀ h ∈ ks ++ [more], farN key h < 4096 := fun h _ => farN_lt key h
  have hE := own_set (d := farN key) (l := ks ++ [more]) (m := [more] ++ ks) hlt (fun x => by simp [or_comm])
  have hM := own_more (d := farN key) (l := ks) (x := more) (fun h _ => farN_lt key h) (farN_lt key more)
  rw [hE] at hM
  have H2 : Hid (∀ a c w, Row1 w a (ks ++ [more]).length (fun i => .string ((ks ++ [more]).getD i ByteArray.empty)) → Calls Tryd.prog 10 #[.slice a (ks ++ [more]).length c, .string key] w fun e w' => e = .returned (.string (ownO (farN key) ([more] ++ ks))) ∧ w' = w) := Lib.hid fun a c w h => by rw [← hE]; exact owner_any a c _ key w h HS2.out hk'
  have H3 : Hid (∀ a c w, Row1 w a ([more] ++ ks).length (fun i => .string (([more] ++ ks).getD i ByteArray.empty)) → Calls Tryd.prog 10 #[.slice a ([more] ++ ks).length c, .string key] w fun e w' => e = .returned (.string (ownO (farN key) ([more] ++ ks))) ∧ w' = w) := Lib.hid fun a c w h => owner_any a c _ key w h HS3.out hk'
  have H1 : Hid (∀ w', Below w.heap.size w w' → Calls Tryd.prog 10 #[.slice a ks.length c, .string key] w' fun e w'' => e = .returned (.string (ownO (farN key) ks)) ∧ w'' = w') := Lib.hid fun w' b => owner_any a c ks key w' (row1_up H.out b) HS1.out hk'
  clear hE hlt h hnil hs hs' ht
  generalize ownO (farN key) ([more] ++ ks) = o2 at *
  generalize ownO (farN key) ks = o1 at *
  go_enter Tryd.func4, Tryd.ntmps4
  go_wp2_with fail
  refine (awake11_any HT.out).mono ?_
  rintro e w1 ⟨rfl, b1⟩
  have B1 := Lib.hid b1
  clear b1
  go_wp2_with fail
  refine (H1.out _ B1.out).mono ?_
  rintro e w2 ⟨rfl, rfl⟩
  go_wp2_with (at_builtin; go_loud (refine wpList_append_texts rfl (.const (.slice none 0 0)) (.tmp 15) rfl w2.heap.size (.slice none 0 0) 0 [] rfl (World.ownsRow_nil _ _ _ _) a c ks rfl (row1_up H.out B1.out) HNil.out (by omega) (Nat.le_refl _) ?_))
  intro v3 w3 o3 g3
  have b3 : Below w2.heap.size w2 w3 := (Below.refl _ w2).grown g3 (Nat.le_refl _) (fun k hk => by simp [Value.ownBlock] at hk)
  have B3 := Lib.hid (B1.out.trans (b3.mono B1.out.size))
  have o3' : w3.ownsRow w2.heap.size 9 1 v3 ks.length (txs6 ks) := by simpa using o3
  have hs3 := b3.size
  clear o3 g3
  go_wp2_with (at_builtin; go_loud (refine wpList_append_texts rfl (.tmp 16) (.tmp 18) rfl w2.heap.size v3 ks.length (txs6 ks) rfl (o3'.alloc _) (some ⟨w3.heap.size, 0, none⟩) 1 [more] rfl (row1_one more) (fun e => by cases e) (by simp only [List.length_cons, List.length_nil]; omega) (by rw [World.size_alloc]; omega) ?_))
  intro v4 w4 o4 g4
  have b4 : Below w2.heap.size (w3.alloc (.cells #[.string more] 9)) w4 := (Below.refl _ _).grown g4 (by rw [World.size_alloc]; omega) (fun k hk => (o3'.lt k hk).1)
  have b4' : Below w2.heap.size w3 w4 := ((Below.refl _ w3).alloc hs3 _).trans b4
  have B4 := Lib.hid (B3.out.trans (b4'.mono B1.out.size))
  have o4' : w4.ownsRow w2.heap.size 9 1 v4 (ks ++ [more]).length (txs6 (ks ++ [more])) := by
    have e : txs6 (ks ++ [more]) = txs6 ks ++ txs6 [more] := by simp [txs6]
    rw [List.length_append, e]
    exact o4
  obtain ⟨a4, c4, e4, k4⟩ := row1_own o4' (by rw [List.length_append, List.length_singleton]; omega)
  have hc4 := H2.out a4 c4 w4 k4
  clear o4 g4 b4 b4' o3' o4' k4 b3 hs3
  generalize (ks ++ [more]).length = n4 at *
  subst e4
  go_wp2_with fail
  refine hc4.mono ?_
  rintro e w5 ⟨rfl, rfl⟩
  clear hc4
  go_wp2_with (at_builtin; go_loud (refine wpList_append_texts rfl (.tmp 23) (.tmp 24) rfl w5.heap.size (.slice (some ⟨w5.heap.size, 0, none⟩) 1 1) 1 (txs6 [more]) rfl (own_cell more _ (Nat.le_refl _)) a c ks rfl (row1_up H.out (B4.out.alloc B4.out.size _)) HNil.out (by omega) (by rw [World.size_alloc]; omega) ?_))
  intro v6 w6 o6 g6
  have b6 : Below w5.heap.size (w5.alloc (.cells #[.string more] 9)) w6 := (Below.refl _ _).grown g6 (by rw [World.size_alloc]; omega) (fun k hk => ((own_cell more _ (Nat.le_refl _)).lt k hk).1)
  have b6' : Below w5.heap.size w5 w6 := ((Below.refl _ w5).alloc (Nat.le_refl _) _).trans b6
  have B6 := Lib.hid (B4.out.trans (b6'.mono B4.out.size))
  have o6' : w6.ownsRow w5.heap.size 9 1 v6 ([more] ++ ks).length (txs6 ([more] ++ ks)) := by
    have e : txs6 ([more] ++ ks) = txs6 [more] ++ txs6 ks := by simp [txs6]
    rw [List.length_append, e]
    exact o6
  obtain ⟨a6, c6, e6, k6⟩ := row1_own o6' (by rw [List.length_append, List.length_singleton]; omega)
  have hc6 := H3.out a6 c6 w6 k6
  clear o6 g6 b6 b6' o6' k6
  generalize ([more] ++ ks).length = n6 at *
  subst e6
  go_wp2_with fail
  refine hc6.mono ?_
  rintro e w7 ⟨rfl, rfl⟩
  clear hc6
  rcases hM with rfl | rfl
  · go_wp2
    go_ret
    exact ⟨rfl, B6.out⟩
  · by_cases he : o2.toList = o1.toList
    · go_wp2
      go_ret
      exact ⟨rfl, B6.out⟩
    · have he2 : (o2.toList == o1.toList) = false := by rw [beq_eq_false_iff_ne]; exact he
      go_wp2
      go_ret
      exact ⟨rfl, B6.out⟩
end Go.Proofs.YtfnbkmmfaaklnaaDoor

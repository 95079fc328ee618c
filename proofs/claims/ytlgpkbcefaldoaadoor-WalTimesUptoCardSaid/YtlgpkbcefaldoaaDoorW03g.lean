/- Layer 3: contracts of names, List, kept, slices.Clone. -/
import Derived.Test.YtlgpkbcefaldoaaDoorW03f
import Derived.Test.YtlgpkbcefaldoaaDoorM01t
namespace Go.Proofs.YtlgpkbcefaldoaaDoor
open Go.RowKit Go.Maps Go.WideMaps Go.Sort Go.Shelf
set_option linter.unusedVariables false

theorem keys_enc {α : Type} (l : List (Key × α)) : (l.map (·.1)).map encStr = l.map fun x => tx x.1 := by
  rw [List.map_map]; rfl

set_option maxHeartbeats 1000000 in
set_option maxRecDepth 100000 in
theorem names_any {w : World} {p m : Nat} {es : List (Key × EntM)} {S : Bx} {F : Nat → Prop} (h : BoxIn w p m es S F) (hl : es.length ≤ 8796093022208) :
    Calls Tryd.prog 24 #[.pointer (some ⟨p, 0, none⟩)] w fun e w' => ∃ v, e = .returned v ∧ w'.ownsRow w.heap.size 9 1 v es.length (es.map fun x => tx x.1) ∧ Below w.heap.size w w' := by
  have c0 := h.head.c0
  have hown := h.map
  unfold MapAt at hown
  have hsz : Maps.size (toD (mapK EntM.blk es)) = es.length := by rw [toD_size, mapK_len]
  have hmax : Maps.size (toD (mapK EntM.blk es)) ≤ maxLen := by rw [hsz]; unfold maxLen; omega
  have hbytes : Maps.size (toD (mapK EntM.blk es)) * 16 ≤ 140737488355328 := by rw [hsz]; omega
  have hris := h.rising
  have H := Lib.hid hris
  clear hris hsz h
  refine (callsIn_wide (n := 6)).1 ?_
  have hfK : Fence.wide.fn 42 := trivial
  have hfS : Fence.wide.fn 41 := trivial
  refine callsIn_of_wp Tryd.func24 rfl trivial ?_ rfl
  simp only [Tryd.ntmps24, List.size_toArray, List.length_cons, List.length_nil, Nat.reduceAdd, Nat.reduceSub, Array.replicate_succ, Array.replicate_zero, List.push_toArray, List.append_toArray, List.nil_append, List.cons_append]
  gi_wp2_with (first
    | (gi_at_call 42; refine (Sh.maps_Keys_42 _ _).mono ?_; rintro e w' ⟨rfl, rfl⟩)
    | (gi_at_call 41; refine (Sh.slices_Sorted_keys_41_42 m _ _ ptrR w hown hmax hbytes).mono ?_; rintro e w' ⟨v, ss, rfl, hS, hrow, hnil, hb⟩))
  go_ret
  rw [toD_keys, mapK_keys] at hS
  rw [sorted_names H.out hS, keys_enc] at hrow
  have hlen : ss.length = es.length := by have := hS.length_eq; simpa using this
  rw [hlen] at hrow
  exact ⟨v, rfl, ownsRow_base_a hrow (by simp), ((Below.refl _ w).alloc (Nat.le_refl _) _).trans (hb.mono (by simp))⟩

set_option maxHeartbeats 400000 in
set_option maxRecDepth 100000 in
theorem box_list {w : World} {p : Nat} {S : Bx} {F : Nat → Prop} (h : BoxAt w p S F) (hl : S.files.length ≤ 8796093022208) :
    Calls Tryd.prog 33 #[.pointer (some ⟨p, 0, none⟩)] w fun r w' => ∃ v, r = .returned (.tuple #[v, .int .i64 (if S.down then 30 else 0)]) ∧ w'.ownsRow w.heap.size 9 1 v (if S.down then 0 else S.files.length) (if S.down then [] else S.files.map fun x => tx x.1) ∧ Below w.heap.size w w' := by
  obtain ⟨m, es, h⟩ := h
  by_cases hd : S.down = true
  · rw [if_pos hd, if_pos hd, if_pos hd]
    have hdn := isDown_any (d := true) (by have := h.head; rw [hd] at this; exact this)
    clear hd h
    go_enter Tryd.func33, Tryd.ntmps33
    go_wp2_with fail
    refine hdn.mono ?_
    rintro r w1 ⟨rfl, rfl⟩
    go_wp2
    go_ret2
    exact ⟨_, rfl, World.ownsRow_nil _ _ _ _, Below.refl _ _⟩
  · rw [if_neg hd, if_neg hd, if_neg hd]
    have hd' : S.down = false := by simpa using hd
    have hdn := isDown_any (d := false) (by have := h.head; rw [hd'] at this; exact this)
    rw [h.files, mapK_len] at hl
    have hnm := names_any h hl
    have hk : (S.files.map fun x => tx x.1) = es.map fun x => tx x.1 := by rw [h.files]; simp [mapK]
    have hk2 : S.files.length = es.length := by rw [h.files, mapK_len]
    rw [hk, hk2]
    clear hd hd' h hk hk2
    go_enter Tryd.func33, Tryd.ntmps33
    go_wp2_with fail
    refine hdn.mono ?_
    rintro r w1 ⟨rfl, rfl⟩
    go_wp2_with fail
    refine hnm.mono ?_
    rintro r w1 ⟨v, rfl, ho, hb⟩
    go_wp2
    go_ret2
    exact ⟨v, rfl, ho, hb⟩

end Go.Proofs.YtlgpkbcefaldoaaDoor

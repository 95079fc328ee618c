/- Layer 11: the walk of RingOrder. -/
import Derived.Test.YtfnbkmmfaaklnaaDoorK11b
import Derived.Test.YtfnbkmmfaaklnaaDoorW00b
import Derived.Deep.RegionHeld3
namespace Go.Proofs.YtfnbkmmfaaklnaaDoor
open Go.RowKit
set_option linter.unusedVariables false

theorem turn_key {n : Nat} (turn : Int) (hn : 0 < n) (h1 : n ≤ 1048576) : ∃ k : Nat, k < n ∧ Hid ((wrap64 (turn.tmod (n : Int) + (n : Int))).tmod (n : Int) = (k : Int)) := by
  have h2 : (turn.tmod (n : Int)).natAbs < n := by
    rw [Int.natAbs_tmod]
    exact Nat.mod_lt _ (by simpa using hn)
  rw [show wrap64 (turn.tmod (n : Int) + (n : Int)) = turn.tmod (n : Int) + (n : Int) from IntWalk.wrap64_in _ (by omega)]
  refine ⟨((turn.tmod (n : Int) + (n : Int)).tmod (n : Int)).toNat, ?_, Lib.hid ?_⟩
  · rw [Int.tmod_eq_emod_of_nonneg (by omega)]
    have := Int.emod_lt_of_pos (turn.tmod (n : Int) + (n : Int)) (show (0 : Int) < n by omega)
    omega
  · rw [Int.tmod_eq_emod_of_nonneg (by omega)]
    have := Int.emod_nonneg (turn.tmod (n : Int) + (n : Int)) (show (n : Int) ≠ 0 by omega)
    omega

theorem slStr : Tryd.prog.underlying 22 = some (.slice (Tryd.prog.elem 22)) := by kernel_rfl
theorem szStr (w : World) : (sizeOf (Tryd.prog.elem 22)).run Tryd.prog w = .ok 1 w := by kernel_rfl
theorem txs6_one (l : List ByteArray) : ∀ u ∈ txs6 l, u.oneCell' = true := fun u hu => by obtain ⟨y, _, rfl⟩ := List.mem_map.1 hu; rfl
/-- What came in, from its k-th text on, and up to it. -/
theorem hosts_cut {w : World} {a : Option Addr} {c k : Nat} {ks : List ByteArray} (h : Row1 w a ks.length (fun i => .string (ks.getD i ByteArray.empty))) (hk : k < ks.length) (hc : ks.length ≤ c) :
    (∃ x, (∀ wx, (Instr.slice 22 (.slice a ks.length c) (some (.int .i64 (k : Int))) none none).run Tryd.prog wx = .ok x wx) ∧ ∀ wx, Below w.heap.size w wx → SrcRow wx x (ks.length - k) 1 (txs6 (ks.drop k))) ∧
    (∃ x, (∀ wx, (Instr.slice 22 (.slice a ks.length c) none (some (.int .i64 (k : Int))) none).run Tryd.prog wx = .ok x wx) ∧ ∀ wx, Below w.heap.size w wx → SrcRow wx x k 1 (txs6 (ks.take k))) := by
  rcases h.row with h0 | ⟨b, off, rfl, hb, hcell⟩
  · omega
  · have hat : ∀ i, i < ks.length → w.cell? ⟨b, off + i, none⟩ = (txs6 ks)[i]? := fun i hi => by
      rw [hcell i hi]; simp [txs6, List.getD, hi]
    refine ⟨⟨.slice (some ⟨b, off + k, none⟩) (ks.length - k) (c - k), fun wx => ?_, fun wx t => ⟨by simp [txs6], txs6_one _, .inr ⟨_, _, rfl, fun j u hu => ?_⟩⟩⟩, ⟨.slice (some ⟨b, off, none⟩) k c, fun wx => ?_, fun wx t => ⟨by simp [txs6]; omega, txs6_one _, .inr ⟨_, _, rfl, fun j u hu => ?_⟩⟩⟩⟩
    · have := run_slice_l (P := Tryd.prog) (w := wx) 22 (some ⟨b, off, none⟩) ks.length c slStr .i64 (k : Int) (by omega) (by omega)
      rw [szStr] at this
      rw [this]
      show Result.ok (sliced (some ⟨b, off, none⟩) ((k : Int).toNat) ks.length c 1) wx = _
      unfold sliced
      have : ¬ c = k := by omega
      simp [Addr.add, this]
    · have hj : j < ks.length - k := by
        have := (List.getElem?_eq_some_iff.1 hu).1
        simpa [txs6] using this
      rw [Addr.add_lit, (t.cell (p := ⟨b, off + k + j, none⟩) hb), Nat.add_assoc, hat (k + j) (by omega), ← hu]
      unfold txs6
      rw [List.map_drop, List.getElem?_drop]
    · have := run_slice_h (P := Tryd.prog) (w := wx) 22 (some ⟨b, off, none⟩) ks.length c slStr .i64 (k : Int) (by omega) (by omega)
      rw [szStr] at this
      rw [this]
      show Result.ok (sliced (some ⟨b, off, none⟩) 0 ((k : Int).toNat) c 1) wx = _
      unfold sliced
      simp [Addr.add]
    · have hj : j < k := by
        have := (List.getElem?_eq_some_iff.1 hu).1
        simp [txs6] at this
        omega
      rw [Addr.add_lit, (t.cell (p := ⟨b, off + j, none⟩) hb), hat j (by omega), ← hu]
      unfold txs6
      rw [List.map_take, List.getElem?_take, if_pos hj]

theorem step_keep {w W w5 : World} {v v' : Value} (hb : Below w.heap.size w W) (g : W.grownBy w5 v.ownBlock) (hv : ∀ k, v.ownBlock = some k → w.heap.size ≤ k) (l : ∀ k, v'.ownBlock = some k → v.ownBlock = some k ∨ W.heap.size ≤ k) : Below w.heap.size w w5 ∧ ∀ k, v'.ownBlock = some k → w.heap.size ≤ k :=
  ⟨hb.grown g hb.size hv, fun k hk => by
    rcases l k hk with h | h
    · exact hv k h
    · have := hb.size; omega⟩
theorem none_own (B : Nat) : ∀ k, (Value.slice none 0 0).ownBlock = some k → B ≤ k := fun k hk => by simp [Value.ownBlock] at hk

/-- append, where the operation is guarded. -/
theorem wpList_app_g (w : World) {ops : Array Oper} {rest : List Oper} {o : Oper} {a : Act} {Q : Exit → Act → World → Prop} (hg : Region.wanted o (yielded ops a.tmps) = true) (sl x : Operand) {T E : TypeId}
    (ho : o.op = .call { callee := .builtin .append, args := #[sl, x], argTypes := #[T, T] }) {i : TypeInfo} {z : Value} {sz bytes : Nat} (ht : Tryd.prog.underlying T = some (.slice E)) (hi : Tryd.prog.info? E = some i) (hz : i.zero = some z) (hsize : i.size = sz) (hby : i.bytes = bytes) (hzs : z.cells.size = sz) (hsz : 0 < sz)
    {v : Value} {n : Nat} {xs : List Value} (hs : a.eval sl = v) (hown : w.ownsRow 0 E sz v n xs) {xv : Value} {m : Nat} {news : List Value} (hx : a.eval x = xv) (hsrc : SrcRow w xv m sz news) (hb : (n + m) * bytes ≤ 140737488355328) (h63 : n + m ≤ maxLen)
    (hK : ∀ v' w', w'.ownsRow 0 E sz v' (n + m) (xs ++ news) → w.grownBy w' v.ownBlock → (∀ k, v'.ownBlock = some k → v.ownBlock = some k ∨ w.heap.size ≤ k) → wpList Tryd.prog ops Q rest (a.put o.dst v') w') : wpList Tryd.prog ops Q (o :: rest) a w := by
  refine wpList_step fun K hK' => ?_
  rw [if_pos hg]
  obtain ⟨v', w', hr, h1, h2, h3⟩ := run_app w o.type ht hi hz hsize hby hzs hsz hown hsrc hb h63
  unfold Oper.wp execOp
  simp only [ho, resolve, invoke, builtin, Sem.run_bind, Sem.run_pure, Result.andThen_ok, List.map_toArray, List.map_cons, List.map_nil, hs, hx, hr]
  exact hK' _ _ (hK v' w' h1 h2 h3)
theorem src_row1 {w : World} {a : Option Addr} {c : Nat} {ks : List ByteArray} (h : Row1 w a ks.length (fun i => .string (ks.getD i ByteArray.empty))) (h0 : ks.length ≠ 0) : SrcRow w (.slice a ks.length c) ks.length 1 (txs6 ks) := by
  rcases h.row with h1 | ⟨b, off, rfl, hb, hcell⟩
  · exact absurd h1 h0
  · refine ⟨by simp [txs6], txs6_one _, .inr ⟨_, _, rfl, fun j u hu => ?_⟩⟩
    have hj : j < ks.length := by
      have := (List.getElem?_eq_some_iff.1 hu).1
      simpa [txs6] using this
    rw [Addr.add_lit, hcell j hj, ← hu]
    simp [txs6, List.getD, hj]
/-- Is it one of them? -/
def hasO (l : List ByteArray) (o : ByteArray) : Bool := l.any fun h => h.toList == o.toList
theorem hasO_next {l : List ByteArray} {j : Nat} (h : j < l.length) (o : ByteArray) : hasO (l.take (j + 1)) o = (hasO (l.take j) o || (l[j].toList == o.toList)) := by
  unfold hasO
  rw [List.take_succ_eq_append_getElem h, List.any_append]
  simp
theorem hasO_of {l : List ByteArray} {o : ByteArray} (h : o ∈ l) : hasO l o = true := List.any_eq_true.2 ⟨o, h, by simp⟩

set_option maxHeartbeats 2000000 in
set_option maxRecDepth 100000 in
theorem order11_walk {w : World} (ht : Tab w) (a : Option Addr) (c : Nat) (ks : List ByteArray) (key : ByteArray) (turn : Int) (h : Row1 w a ks.length (fun i => .string (ks.getD i ByteArray.empty))) (hnil : a = none → c = 0) (hs : ∀ i, (ks.getD i ByteArray.empty).size ≤ 140737488351232) (hl : ks.length ≤ 1048576) (hlc : ks.length ≤ c) (hk : key.size ≤ 140737488351232) (hn : (Lit.int .i64 turn).wf = true) :
    Calls Tryd.prog 6 #[.slice a ks.length c, .string key, .int .i64 turn] w fun e w' => e = .returned (.bool true) ∧ Below w.heap.size w w' := by
  have hnb := bounds_i64 hn
  have hk' : key.size ≤ maxLen := by unfold maxLen; omega
  have hs' : ∀ i, (ks.getD i ByteArray.empty).size ≤ maxLen := fun i => by have := hs i; unfold maxLen; omega
  have HT := Lib.hid ht
  have H := Lib.hid h
  have HNil := Lib.hid hnil
  have HS1 := Lib.hid hs'
  have H1 : Hid (∀ w', Below w.heap.size w w' → Calls Tryd.prog 10 #[.slice a ks.length c, .string key] w' fun e w'' => e = .returned (.string (ownO (farN key) ks)) ∧ w'' = w') := Lib.hid fun w' b => owner_any a c ks key w' (row1_up H.out b) HS1.out hk'
  clear h hnil hs hs' ht hn
  by_cases h0 : ks.length = 0
  · have hks : ks = [] := List.eq_nil_of_length_eq_zero h0
    subst hks
    have ho : ownO (farN key) [] = ⟨#[]⟩ := rfl
    rw [ho] at H1
    have hz : (⟨#[]⟩ : ByteArray).toList = [] := by decide +kernel
    go_enter Tryd.func6, Tryd.ntmps6
    go_wp2_with fail
    refine (awake11_any HT.out).mono ?_
    rintro e w1 ⟨rfl, b1⟩
    have B1 := Lib.hid b1
    clear b1
    go_wp2_with fail
    refine (H1.out _ B1.out).mono ?_
    rintro e w2 ⟨rfl, rfl⟩
    go_wp2
    go_ret
    exact ⟨rfl, B1.out⟩
  · obtain ⟨n, hnn⟩ : ∃ n, ks.length = n := ⟨_, rfl⟩
    obtain ⟨k, hkn, hkey⟩ := turn_key turn (n := n) (by omega) (by omega)
    rw [hnn] at H1 hl hlc h0
    go_enter Tryd.func6, Tryd.ntmps6
    go_wp2_with fail
    refine (awake11_any HT.out).mono ?_
    rintro e w1 ⟨rfl, b1⟩
    have B1 := Lib.hid b1
    clear b1
    obtain ⟨⟨x1, e1, s1⟩, ⟨x2, e2, s2⟩⟩ := hosts_cut (c := c) (k := k) H.out (by rw [hnn]; exact hkn) (by rw [hnn]; exact hlc)
    rw [hnn] at e1 e2 s1
    have S1 : Hid (∀ wx, Below w1.heap.size w1 wx → SrcRow wx x1 (n - k) 1 (txs6 (ks.drop k))) := Lib.hid fun wx b => s1 wx (B1.out.trans (b.mono B1.out.size))
    have S2 : Hid (∀ wx, Below w1.heap.size w1 wx → SrcRow wx x2 k 1 (txs6 (ks.take k))) := Lib.hid fun wx b => s2 wx (B1.out.trans (b.mono B1.out.size))
    obtain ⟨i0, hi, hz0, hz1, hz2⟩ := info_parts infoStr6
    have hrefl := Below.refl w1.heap.size w1
    clear s1 s2
    go_wp2_with fail
    rw [hkey.out]
    go_region_held3 (fun w' => Below w1.heap.size w1 w') (first | exact Below.refl _ _ | assumption | (apply Below.drew; assumption) | skip)
      (first
        | ((refine step_app (T := 22) (E := 9) (i := i0) (z := .string ⟨#[]⟩) (sz := 1) (bytes := 16) (v := .slice none 0 0) (n := 0) (xs := []) (xv := x1) (m := n - k) (news := txs6 (ks.drop k)) _ (by rfl) (.const (.slice none 0 0)) (.tmp 34) (by rfl) Tryd.underlying22 hi hz0 hz1 hz2 rfl (by decide) (by rfl) (World.ownsRow_nil _ _ _ _) (by rfl) (S1.out _ (by assumption)) (by omega) (by unfold maxLen; omega) ?_); intro b5 c5 w5 o5 g5 l5; obtain ⟨B5, N5⟩ := step_keep (w := w1) (by assumption) g5 (none_own _) l5)
        | ((refine step_app (T := 22) (E := 9) (i := i0) (z := .string ⟨#[]⟩) (sz := 1) (bytes := 16) (n := 0 + (n - k)) (xs := [] ++ txs6 (ks.drop k)) (xv := x2) (m := k) (news := txs6 (ks.take k)) _ (by rfl) (.tmp 35) (.tmp 38) (by rfl) Tryd.underlying22 hi hz0 hz1 hz2 rfl (by decide) (by rfl) (by assumption) (by rfl) (S2.out _ (by assumption)) (by omega) (by unfold maxLen; omega) ?_); intro b6 c6 w6 o6 g6 l6; obtain ⟨B6, N6⟩ := step_keep (w := w1) (by assumption) g6 N5 l6))
    have en : 0 + (n - k) + k = n := by omega
    have o6' : w6.ownsRow w1.heap.size 9 1 (.slice b6 n c6) (ks.drop k ++ ks.take k).length (txs6 (ks.drop k ++ ks.take k)) := by
      have e1 : (ks.drop k ++ ks.take k).length = 0 + (n - k) + k := by rw [List.length_append, List.length_drop, List.length_take, hnn]; omega
      have e2 : txs6 (ks.drop k ++ ks.take k) = [] ++ txs6 (ks.drop k) ++ txs6 (ks.take k) := by simp [txs6]
      rw [e1, e2]
      have := ownsRow_up o6 (base' := w1.heap.size) N6
      rw [en] at this ⊢
      exact this
    have hlo : (ks.drop k ++ ks.take k).length = n := by rw [List.length_append, List.length_drop, List.length_take, hnn]; omega
    have hmem : ∀ x, x ∈ ks.drop k ++ ks.take k ↔ x ∈ ks := fun x => by
      rw [List.mem_append]
      constructor
      · rintro (h | h)
        · exact List.mem_of_mem_drop h
        · exact List.mem_of_mem_take h
      · intro h
        rw [← List.take_append_drop k ks, List.mem_append] at h
        exact h.symm
    have hsz : ∀ i, ((ks.drop k ++ ks.take k).getD i ByteArray.empty).size ≤ maxLen := fun i => by
      by_cases hi : i < (ks.drop k ++ ks.take k).length
      · have hx : (ks.drop k ++ ks.take k).getD i ByteArray.empty = (ks.drop k ++ ks.take k)[i] := by simp only [List.getD, List.getElem?_eq_getElem hi, Option.getD_some]
        rw [hx]
        obtain ⟨j, hj, e⟩ := List.getElem_of_mem ((hmem _).1 (List.getElem_mem hi))
        have := HS1.out j
        rw [show ks.getD j ByteArray.empty = ks[j] by simp only [List.getD, List.getElem?_eq_getElem hj, Option.getD_some], e] at this
        exact this
      · unfold List.getD
        rw [List.getElem?_eq_none (by omega)]
        exact Nat.zero_le _
    have hne : ks ≠ [] := fun e => by rw [e] at hnn; simp at hnn; omega
    have hfar : ∀ h ∈ ks, farN key h < 4096 := fun h _ => farN_lt key h
    have HIN := Lib.hid (hasO_of (own_in (d := farN key) hfar hne))
    generalize hoth : ks.drop k ++ ks.take k = oth at *
    have HE1 : ownO (farN key) ks = ownO (farN key) oth := own_set hfar (fun x => (hmem x).symm)
    have HE2 : ownO (farN key) ks = ownO (farN key) (oth ++ ks) := own_set hfar (fun x => by rw [List.mem_append, hmem x, or_self])
    have H2 : Hid (∀ a c w, Row1 w a oth.length (fun i => .string (oth.getD i ByteArray.empty)) → Calls Tryd.prog 10 #[.slice a oth.length c, .string key] w fun e w' => e = .returned (.string (ownO (farN key) ks)) ∧ w' = w) := Lib.hid fun a c w h => by rw [HE1]; exact owner_any a c _ key w h hsz hk'
    have H3 : Hid (∀ a c w, Row1 w a (oth ++ ks).length (fun i => .string ((oth ++ ks).getD i ByteArray.empty)) → Calls Tryd.prog 10 #[.slice a (oth ++ ks).length c, .string key] w fun e w' => e = .returned (.string (ownO (farN key) ks)) ∧ w' = w) := Lib.hid fun a c w h => by rw [HE2]; exact owner_any a c _ key w h (sizes_two hsz HS1.out) hk'
    have HNX := Lib.hid (fun j (hj : j < ks.length) => hasO_next hj (ownO (farN key) ks))
    have B6' := Lib.hid (B1.out.trans (B6.mono B1.out.size))
    have hR := H.out.row
    have O6 := Lib.hid o6'
    have HB6 := Lib.hid B6
    have en2 : n - k + k = n := by omega
    have HH : Hid (hasO (ks.take 0) (ownO (farN key) ks) = false) := Lib.hid (by simp [hasO])
    have HTL : Hid (ks.take n = ks) := Lib.hid (by rw [← hnn]; exact List.take_length)
    clear o6 g6 l6 o5 g5 l5 N5 N6 B5 B6 o6' hsz hmem hfar HE1 HE2 hne hi hz0 hz1 hz2 hrefl S1 S2 e1 e2 hoth en
    generalize ownO (farN key) ks = o at *
    rw [en2]
    clear en2
    go_wp2_with fail
    refine (H1.out _ B6'.out).mono ?_
    rintro e w7 ⟨rfl, rfl⟩
    go_wp2
    go_loop [10, 45] (fun f i => ∃ j : Nat, j ≤ n ∧ i = .int .i64 (j : Int) ∧ f = .bool (hasO (ks.take j) o)) (fun _ i => n - (intOf i).toNat)
    case atStart => exact ⟨0, by omega, rfl, by rw [HH.out]⟩
    case round =>
      obtain ⟨j, hj, rfl, rfl⟩ := hrel
      by_cases hlt : j < n
      · obtain ⟨b, off, ha, hbl, hc⟩ := (row1_up H.out B6'.out).at (k := j) (by omega)
        subst ha
        have hgd : ks.getD j ByteArray.empty = ks[j]'(by omega) := by simp [List.getD, show j < ks.length by omega]
        have HN := Lib.hid (HNX.out j (by omega))
        rw [hgd] at hc
        generalize ks[j] = s at *
        generalize hasO (ks.take j) o = f at *
        cases f with
        | true =>
          go_wp2
          go_round
          case rel => exact ⟨j + 1, by omega, by go_num, by rw [HN.out]; rfl⟩
          case measure => simp [intOf]; omega
        | false =>
          by_cases he : s.toList = o.toList
          · have HQ : Hid ((s.toList == o.toList) = true) := Lib.hid (by rw [beq_iff_eq]; exact he)
            go_wp2
            go_round
            case rel => exact ⟨j + 1, by omega, by go_num, by rw [HN.out, HQ.out]; rfl⟩
            case measure => simp [intOf]; omega
          · have he2 : (s.toList == o.toList) = false := by rw [beq_eq_false_iff_ne]; exact he
            have HQ := Lib.hid he2
            go_wp2
            go_round
            case rel => exact ⟨j + 1, by omega, by go_num, by rw [HN.out, HQ.out]; rfl⟩
            case measure => simp [intOf]; omega
      · obtain rfl : j = n := by omega
        rw [HTL.out, HIN.out]
        obtain ⟨a8, c8, e8, k8⟩ := row1_own O6.out (by omega)
        have hc8 := H2.out a8 c8 w7 k8
        rw [hlo] at e8 hc8
        injection e8 with e8a e8b e8c
        subst e8a
        subst e8c
        clear k8 e8b
        go_wp2_with fail
        refine hc8.mono ?_
        rintro e w8 ⟨rfl, rfl⟩
        clear hc8
        obtain ⟨i0, hi, hz0, hz1, hz2⟩ := info_parts infoStr6
        have o8 : w8.ownsRow 0 9 1 (.slice b6 j c6) j (txs6 oth) := by
          have := ownsRow_base O6.out (Nat.zero_le _)
          rwa [hlo] at this
        have hsrc : SrcRow w8 (.slice a j c) j 1 (txs6 ks) := by
          have := src_row1 (c := c) (row1_up H.out B6'.out) (by omega)
          rwa [hnn] at this
        go_wp2_with (at_builtin; go_loud (refine wpList_app_g (v := .slice b6 j c6) (n := j) (xs := txs6 oth) (xv := .slice a j c) (m := j) (news := txs6 ks) w8 (by simp [Region.wanted, yielded]) (.tmp 65) (.tmp 66) rfl Tryd.underlying22 hi hz0 hz1 hz2 rfl (by decide) rfl o8 rfl hsrc (by omega) (by unfold maxLen; omega) ?_))
        intro v9 w9 o9 g9 l9
        have b9 : Below w1.heap.size w8 w9 := (Below.refl _ w8).grown g9 HB6.out.size (fun k hk => (O6.out.lt k hk).1)
        have B9 := Lib.hid (B6'.out.trans (b9.mono B1.out.size))
        have o9' : w9.ownsRow 0 9 1 v9 (oth ++ ks).length (txs6 (oth ++ ks)) := by
          have e : txs6 (oth ++ ks) = txs6 oth ++ txs6 ks := by simp [txs6]
          rw [List.length_append, hlo, hnn, e]
          exact o9
        obtain ⟨a9, c9, e9, k9⟩ := row1_own o9' (by rw [List.length_append]; omega)
        have hc9 := H3.out a9 c9 w9 k9
        clear o9 g9 l9 b9 o9' k9 o8 hsrc
        generalize (oth ++ ks).length = n9 at *
        subst e9
        go_wp2_with fail
        refine hc9.mono ?_
        rintro e w10 ⟨rfl, rfl⟩
        go_wp2
        go_ret
        exact ⟨rfl, B9.out⟩
end Go.Proofs.YtfnbkmmfaaklnaaDoor

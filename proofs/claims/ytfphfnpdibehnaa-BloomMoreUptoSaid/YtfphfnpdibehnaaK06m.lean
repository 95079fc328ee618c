/- Layer 6: the walk of BloomMore, whatever the code; a row of texts that came in is appended. -/
import Derived.Test.YtfphfnpdibehnaaK06
import Derived.Laws.AppendOwnNone
namespace Go.Proofs.Ytfphfnpdibehnaa
open Go.RowKit
set_option linter.unusedVariables false

theorem infoStr6 : (Try.prog.info? 9).map (fun i => (i.zero, i.size, i.bytes)) = some (some (.string ⟨#[]⟩), 1, 16) := by kernel_rfl
def txs6 (l : List ByteArray) : List Value := l.map fun s => .string s

/-- Texts that came in are appended to a row of the call's own. -/
theorem wpList_append_texts {w : World} {ops : Array Oper} {rest : List Oper} {o : Oper} {a : Act} {Q : Exit → Act → World → Prop} (hgd : o.guard = none) (s x : Operand)
    (ho : o.op = .call { callee := .builtin .append, args := #[s, x], argTypes := #[22, 22] })
    (base : Nat) (v : Value) (n : Nat) (xs : List Value) (hs : a.eval s = v) (hown : w.ownsRow base 9 1 v n xs)
    (a' : Option Addr) (c : Nat) (ks : List ByteArray) (hx : a.eval x = .slice a' ks.length c) (hr : Row1 w a' ks.length (fun i => .string (ks.getD i ByteArray.empty))) (hnil : a' = none → c = 0)
    (hb : n + ks.length ≤ 8388608) (hbase : base ≤ w.heap.size)
    (h : ∀ v' w', w'.ownsRow base 9 1 v' (n + ks.length) (xs ++ txs6 ks) → w.grownBy w' v.ownBlock → wpList Try.prog ops Q rest (a.put o.dst v') w') : wpList Try.prog ops Q (o :: rest) a w := by
  obtain ⟨i0, hi, hz0, hz1, hz2⟩ := info_parts infoStr6
  have one : ∀ u ∈ txs6 ks, u.oneCell' = true := fun u hu => by obtain ⟨y, _, rfl⟩ := List.mem_map.1 hu; rfl
  have hl : (txs6 ks).length = ks.length * 1 := by simp [txs6]
  cases a' with
  | none =>
    have hc := hnil rfl
    subst hc
    rcases hr.row with h0 | ⟨b, off, hab, _⟩
    · have hk : ks = [] := List.eq_nil_of_length_eq_zero h0
      subst hk
      exact wpList_append_own_none hgd s x 22 ho base 9 i0 1 Try.underlying22 hi v n xs hs hown hx (h v w (by simpa [txs6] using hown) (World.grownBy.refl w _))
    · cases hab
  | some ad =>
    refine wpList_append_own w hgd s x 22 ho base 9 i0 (.string ⟨#[]⟩) 1 16 Try.underlying22 hi hz0 hz1 hz2 rfl (by decide) v n xs hs hown ad ks.length c (txs6 ks) hx hl (fun j u hj => ?_) one (by unfold maxLen; omega) (by omega) hbase (fun v' w' h2 h3 _ => h v' w' h2 h3)
    have hjl : j < ks.length := by
      have := (List.getElem?_eq_some_iff.1 hj).1
      simpa [txs6] using this
    rcases hr.row with h0 | ⟨b, off, hab, hbl, hc⟩
    · omega
    · injection hab with hab
      subst hab
      rw [Addr.add_lit, hc j hjl]
      have : (txs6 ks)[j]? = some (.string ks[j]) := by simp [txs6, hjl]
      rw [this] at hj
      injection hj with hj
      subst hj
      simp [List.getD, hjl]
theorem keys_own {w : World} {base : Nat} {v : Value} {ks : List ByteArray} (h : w.ownsRow base 9 1 v ks.length (txs6 ks)) (hz : ∀ i, (ks.getD i ByteArray.empty).size ≤ 140737488351232) (hm : ks.length ≤ 8388608) : ∃ a c, v = .slice a ks.length c ∧ Keys6 w a ks := by
  have hr := h
  rcases h.2 with ⟨rfl, h0⟩ | ⟨g, cap, cur, rfl, _, hg, hle, hcm, _⟩
  · exact ⟨none, 0, by rw [h0], ⟨by omega, .inl h0⟩, hz⟩
  · refine ⟨some ⟨g, 0, none⟩, cap, rfl, ⟨by omega, .inr ⟨g, 0, rfl, block_lt hg, fun i hi => ?_⟩⟩, hz⟩
    rw [Nat.zero_add]
    refine (hr.cellAt i (by omega)).trans ?_
    have : (txs6 ks)[i]? = some (.string ks[i]) := by simp [txs6, hi]
    rw [this]
    simp [List.getD, hi]
theorem sizes_both {a b : List ByteArray} {z : Nat} (ha : ∀ i, (a.getD i ByteArray.empty).size ≤ z) (hb : ∀ i, (b.getD i ByteArray.empty).size ≤ z) : ∀ i, ((a ++ b).getD i ByteArray.empty).size ≤ z := fun i => by
  by_cases h : i < a.length
  · have : (a ++ b).getD i ByteArray.empty = a.getD i ByteArray.empty := by simp [List.getD, List.getElem?_append_left h]
    rw [this]; exact ha i
  · have : (a ++ b).getD i ByteArray.empty = b.getD (i - a.length) ByteArray.empty := by simp [List.getD, List.getElem?_append_right (Nat.le_of_not_lt h)]
    rw [this]; exact hb _
theorem more_has {ks ms : List ByteArray} (hsub : ∀ s ∈ ks, s ∈ ms) (n : Int) {s : ByteArray} (h : hasK6 (makeS ks n).data.toList s = true) : hasK6 (makeS ms n).data.toList s = true := by
  by_cases hr : 1 ≤ n ∧ n ≤ 8192
  · rw [makeS_list _ hr] at h ⊢
    exact makeL_more hsub h
  · have : makeS ks n = ⟨#[]⟩ := by unfold makeS; rw [if_neg hr]
    rw [this, has_nil] at h
    cases h

set_option maxHeartbeats 4000000 in
set_option maxRecDepth 100000 in
theorem more6_walk (K : BloomK) (a0 : Option Addr) (c0 : Nat) (ks : List ByteArray) (a1 : Option Addr) (c1 : Nat) (ms : List ByteArray) (n : Int) (a2 : Option Addr) (c2 : Nat) (qs : List ByteArray) (w : World)
    (h0 : Keys6 w a0 ks) (h1 : Keys6 w a1 ms) (h2 : Keys6 w a2 qs) (n0 : a0 = none → c0 = 0) (n1 : a1 = none → c1 = 0) (hb : ks.length + ms.length ≤ 4194304) (hn : (Lit.int .i64 n).wf = true) :
    Calls Try.prog 5 #[.agg #[.slice a0 ks.length c0, .slice a1 ms.length c1, .int .i64 n, .slice a2 qs.length c2]] w fun e w' => e = .returned (.bool true) ∧ Below w.heap.size w w' := by
  have hmax := h2.1.max
  have hcall := fun w' (b : Below w.heap.size w w') => K.make a0 c0 ks w' (h0.below b) n hn
  have hsf := makeS_small ks n
  have hsg := makeS_small (ms ++ ks) n
  have HMO : Hid (∀ s, hasK6 (makeS ks n).data.toList s = true → hasK6 (makeS (ms ++ ks) n).data.toList s = true) := fun s h => more_has (fun s hs => List.mem_append_right _ hs) n h
  have HSZ := Lib.hid (sizes_both h1.2 h0.2)
  have HG : Hid (∀ a c w', Keys6 w' a (ms ++ ks) → Calls Try.prog 10 #[.slice a (ms ++ ks).length c, .int .i64 n] w' fun e w'' => e = .returned (.tuple #[.string (makeS (ms ++ ks) n), .int .i64 (makeE n : Nat)]) ∧ Below w'.heap.size w' w'') := fun a c w' h => K.make a c (ms ++ ks) w' h n hn
  have hnw := heap_alloc_new w (.cells #[.slice a0 ks.length c0, .slice a1 ms.length c1, .int .i64 n, .slice a2 qs.length c2] 38)
  have hbw : Below w.heap.size w (w.alloc (.cells #[.slice a0 ks.length c0, .slice a1 ms.length c1, .int .i64 n, .slice a2 qs.length c2] 38)) := (Below.refl _ w).alloc (Nat.le_refl _) _
  generalize makeS ks n = f at *
  generalize makeS (ms ++ ks) n = g at *
  generalize makeE n = e0 at *
  have q0 : (w.alloc (.cells #[.slice a0 ks.length c0, .slice a1 ms.length c1, .int .i64 n, .slice a2 qs.length c2] 38)).cell? ⟨w.heap.size, 0, none⟩ = some (.slice a0 ks.length c0) := by rw [block_cell hnw]; rfl
  have q1 : (w.alloc (.cells #[.slice a0 ks.length c0, .slice a1 ms.length c1, .int .i64 n, .slice a2 qs.length c2] 38)).cell? ⟨w.heap.size, 1, none⟩ = some (.slice a1 ms.length c1) := by rw [block_cell hnw]; rfl
  have q2 : (w.alloc (.cells #[.slice a0 ks.length c0, .slice a1 ms.length c1, .int .i64 n, .slice a2 qs.length c2] 38)).cell? ⟨w.heap.size, 2, none⟩ = some (.int .i64 n) := by rw [block_cell hnw]; rfl
  have q3 : (w.alloc (.cells #[.slice a0 ks.length c0, .slice a1 ms.length c1, .int .i64 n, .slice a2 qs.length c2] 38)).cell? ⟨w.heap.size, 3, none⟩ = some (.slice a2 qs.length c2) := by rw [block_cell hnw]; rfl
  have BW := Lib.hid hbw
  have H0 := Lib.hid h0
  have H1 := Lib.hid h1
  have H2 := Lib.hid h2
  have N0 := Lib.hid n0
  have N1 := Lib.hid n1
  clear hnw hbw h0 h1 h2 n0 n1 hn
  go_enter Try.func5, Try.ntmps5
  go_wp2_with fail
  go_quiet (fail)
  have B0 := Lib.hid (BW.out.trans ((drawnC _ nq).mono BW.out.size))
  clear q0 q1 q2 q3
  generalize w.alloc (.cells #[.slice a0 ks.length c0, .slice a1 ms.length c1, .int .i64 n, .slice a2 qs.length c2] 38) = wx at *
  generalize wx.drewN nq = w0 at *
  go_wp2_with fail
  refine (awake6_any K _).mono ?_
  rintro e w1 ⟨rfl, b1⟩
  have B1 := Lib.hid (B0.out.trans (b1.mono B0.out.size))
  clear b1
  go_wp2_with fail
  refine (hcall _ B1.out).mono ?_
  rintro e w2 ⟨rfl, b2⟩
  have B2 := Lib.hid (B1.out.trans (b2.mono B1.out.size))
  clear b2
  go_wp2_with (at_builtin; go_loud (refine wpList_append_texts rfl (.const (.slice none 0 0)) (.tmp 30) rfl w2.heap.size (.slice none 0 0) 0 [] rfl (World.ownsRow_nil _ _ _ _) a1 c1 ms rfl (H1.out.below B2.out).1 N1.out (by omega) (Nat.le_refl _) ?_))
  intro v3 w3 o3 g3
  have b3 : Below w2.heap.size w2 w3 := (Below.refl _ w2).grown g3 (Nat.le_refl _) (fun k hk => by simp [Value.ownBlock] at hk)
  have B3 := Lib.hid (B2.out.trans (b3.mono B2.out.size))
  have o3' : w3.ownsRow w2.heap.size 9 1 v3 ms.length (txs6 ms) := by simpa using o3
  have hs3 := b3.size
  clear o3 g3 b3
  go_wp2_with (at_builtin; go_loud (refine wpList_append_texts rfl (.tmp 31) (.tmp 32) rfl w2.heap.size v3 ms.length (txs6 ms) rfl o3' a0 c0 ks rfl (H0.out.below B3.out).1 N0.out (by omega) hs3 ?_))
  intro v4 w4 o4 g4
  have b4 : Below w2.heap.size w3 w4 := (Below.refl _ w3).grown g4 hs3 (fun k hk => (o3'.lt k hk).1)
  have B4 := Lib.hid (B3.out.trans (b4.mono B2.out.size))
  have o4' : w4.ownsRow w2.heap.size 9 1 v4 (ms ++ ks).length (txs6 (ms ++ ks)) := by
    have e : txs6 (ms ++ ks) = txs6 ms ++ txs6 ks := by simp [txs6]
    rw [List.length_append, e]
    exact o4
  obtain ⟨a4, c4, rfl, k4⟩ := keys_own o4' HSZ.out (by rw [List.length_append]; omega)
  have hcg := HG.out a4 c4 w4 k4
  rw [List.length_append] at hcg
  clear o3' o4 o4' g4 b4 k4 hs3
  go_wp2_with fail
  refine hcg.mono ?_
  rintro e w5 ⟨rfl, b5⟩
  have B5 := Lib.hid (B4.out.trans (b5.mono B4.out.size))
  clear b5 hcg
  go_wp2
  go_loopw [43] (fun iv wr => ∃ k : Nat, k ≤ qs.length ∧ iv = .int .i64 (k : Int) ∧ Hid (Below w.heap.size w wr)) (fun iv _ => qs.length - (intOf iv).toNat)
  case atStart => exact ⟨0, by omega, rfl, B5.out⟩
  case round =>
    obtain ⟨k, hk, rfl, HB⟩ := hrel
    by_cases hlt : k < qs.length
    · obtain ⟨b, off, rfl, hc⟩ := H2.out.1.in HB.out hlt
      have hz := H2.out.2 k
      generalize qs.getD k ByteArray.empty = s at *
      have HMS := Lib.hid (HMO.out s)
      have hcf := fun w => K.has f s w hsf hz
      have hcg := fun w => K.has g s w hsg hz
      generalize hasK6 f.data.toList s = xf at *
      generalize hasK6 g.data.toList s = xg at *
      go_wp2_with fail
      refine (hcf _).mono ?_
      rintro e w6 ⟨rfl, b6⟩
      have B6 := Lib.hid (HB.out.trans (b6.mono HB.out.size))
      clear b6 hc
      cases xf with
      | false =>
        go_wp2
        go_roundw
        case rel => exact ⟨k + 1, by omega, by go_num, B6.out⟩
        case measure => simp [intOf]; omega
      | true =>
        obtain rfl := HMS.out rfl
        go_wp2_with fail
        refine (hcg _).mono ?_
        rintro e w7 ⟨rfl, b7⟩
        have B7 := Lib.hid (B6.out.trans (b7.mono B6.out.size))
        clear b7
        go_wp2
        go_roundw
        case rel => exact ⟨k + 1, by omega, by go_num, B7.out⟩
        case measure => simp [intOf]; omega
    · go_wp2
      go_ret
      exact ⟨rfl, HB.out⟩
end Go.Proofs.Ytfphfnpdibehnaa

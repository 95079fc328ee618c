/- Layer 6: the walk of BloomJoins, whatever the code. -/
import Derived.Test.YtfphfnpdibehnaaK06m
namespace Go.Proofs.Ytfphfnpdibehnaa
open Go.RowKit
set_option linter.unusedVariables false

theorem bytes_at {l : List UInt8} {i : Nat} (h : i < (⟨l.toArray⟩ : ByteArray).size) : (⟨l.toArray⟩ : ByteArray)[i] = l.getD i 0 := by
  have h' : i < l.length := h
  show l.toArray[i] = _
  simp [List.getD, h']
theorem joins_at (ks ms : List ByteArray) (n : Int) : (makeS ks n).size = (makeS (ks ++ ms) n).size ∧ (makeS ms n).size = (makeS (ks ++ ms) n).size ∧ (makeS ks n).size ≤ 8192 ∧
    ∀ i (ha : i < (makeS ks n).size) (hb : i < (makeS ms n).size) (hc : i < (makeS (ks ++ ms) n).size), (makeS ks n)[i] ||| (makeS ms n)[i] = (makeS (ks ++ ms) n)[i] := by
  by_cases h : 1 ≤ n ∧ n ≤ 8192
  · have h1 := makeS_size ks h
    have h2 := makeS_size ms h
    have h3 := makeS_size (ks ++ ms) h
    refine ⟨by omega, by omega, by omega, fun i ha hb hc => ?_⟩
    have e : ∀ l : List ByteArray, makeS l n = ⟨(makeL l n.toNat).toArray⟩ := fun l => by unfold makeS; rw [if_pos h]
    have hj := makeL_joins (n := n.toNat) (by omega) ks ms (i := i) (by omega)
    have g : ∀ (l : List ByteArray) (hi : i < (makeS l n).size), (makeS l n)[i] = (makeL l n.toNat).getD i 0 := fun l hi => by
      have key : ∀ (t : ByteArray) (ht : i < t.size), t = ⟨(makeL l n.toNat).toArray⟩ → t[i] = (makeL l n.toNat).getD i 0 := fun t ht e => by subst e; exact bytes_at ht
      exact key _ hi (e l)
    rw [g ks ha, g ms hb, g (ks ++ ms) hc]
    exact hj
  · have e : ∀ l : List ByteArray, (makeS l n).size = 0 := fun l => by unfold makeS; rw [if_neg h]; rfl
    refine ⟨by rw [e, e], by rw [e, e], by rw [e]; exact Nat.zero_le _, fun i ha => ?_⟩
    rw [e] at ha
    omega
theorem or_bytes {x y z : UInt8} (h : x ||| y = z) : bits .or .u8 (x.toNat : Int) (y.toNat : Int) = (z.toNat : Int) := by
  have hx := UInt8.toNat_lt x
  have hy := UInt8.toNat_lt y
  rw [u8_or_nat _ _ (by omega) (by omega), ← UInt8.toNat_or, h]

set_option maxHeartbeats 4000000 in
set_option maxRecDepth 100000 in
theorem joins6_walk (K : BloomK) (a0 : Option Addr) (c0 : Nat) (ks : List ByteArray) (a1 : Option Addr) (c1 : Nat) (ms : List ByteArray) (n : Int) (w : World)
    (h0 : Keys6 w a0 ks) (h1 : Keys6 w a1 ms) (n0 : a0 = none → c0 = 0) (n1 : a1 = none → c1 = 0) (hb : ks.length + ms.length ≤ 4194304) (hn : (Lit.int .i64 n).wf = true) :
    Calls Try.prog 6 #[.slice a0 ks.length c0, .slice a1 ms.length c1, .int .i64 n] w fun e w' => e = .returned (.bool true) ∧ Below w.heap.size w w' := by
  have hca := fun w' (b : Below w.heap.size w w') => K.make a0 c0 ks w' (h0.below b) n hn
  have hcb := fun w' (b : Below w.heap.size w w') => K.make a1 c1 ms w' (h1.below b) n hn
  have HSZ := Lib.hid (sizes_both h0.2 h1.2)
  have HG : Hid (∀ a c w', Keys6 w' a (ks ++ ms) → Calls Try.prog 10 #[.slice a (ks ++ ms).length c, .int .i64 n] w' fun e w'' => e = .returned (.tuple #[.string (makeS (ks ++ ms) n), .int .i64 (makeE n : Nat)]) ∧ Below w'.heap.size w' w'') := fun a c w' h => K.make a c (ks ++ ms) w' h n hn
  have hj := joins_at ks ms n
  generalize makeS ks n = fa at *
  generalize makeS ms n = fb at *
  generalize makeS (ks ++ ms) n = fc at *
  generalize makeE n = e0 at *
  obtain ⟨j1, j2, j3, j4⟩ := hj
  have H0 := Lib.hid h0
  have H1 := Lib.hid h1
  have N0 := Lib.hid n0
  have N1 := Lib.hid n1
  have HJ := Lib.hid j4
  clear h0 h1 n0 n1 hn j4
  go_enter Try.func6, Try.ntmps6
  go_wp2_with fail
  refine (awake6_any K _).mono ?_
  rintro e w1 ⟨rfl, b1⟩
  have B1 := Lib.hid b1
  clear b1
  go_wp2_with fail
  refine (hca _ B1.out).mono ?_
  rintro e w2 ⟨rfl, b2⟩
  have B2 := Lib.hid (B1.out.trans (b2.mono B1.out.size))
  clear b2
  go_wp2_with fail
  refine (hcb _ B2.out).mono ?_
  rintro e w3 ⟨rfl, b3⟩
  have B3 := Lib.hid (B2.out.trans (b3.mono B2.out.size))
  clear b3
  go_wp2_with (at_builtin; go_loud (refine wpList_append_texts rfl (.const (.slice none 0 0)) (.tmp 29) rfl w3.heap.size (.slice none 0 0) 0 [] rfl (World.ownsRow_nil _ _ _ _) a0 c0 ks rfl (H0.out.below B3.out).1 N0.out (by omega) (Nat.le_refl _) ?_))
  intro v4 w4 o4 g4
  have b4 : Below w3.heap.size w3 w4 := (Below.refl _ w3).grown g4 (Nat.le_refl _) (fun k hk => by simp [Value.ownBlock] at hk)
  have B4 := Lib.hid (B3.out.trans (b4.mono B3.out.size))
  have o4' : w4.ownsRow w3.heap.size 9 1 v4 ks.length (txs6 ks) := by simpa using o4
  have hs4 := b4.size
  clear o4 g4 b4
  go_wp2_with (at_builtin; go_loud (refine wpList_append_texts rfl (.tmp 30) (.tmp 31) rfl w3.heap.size v4 ks.length (txs6 ks) rfl o4' a1 c1 ms rfl (H1.out.below B4.out).1 N1.out (by omega) hs4 ?_))
  intro v5 w5 o5 g5
  have b5 : Below w3.heap.size w4 w5 := (Below.refl _ w4).grown g5 hs4 (fun k hk => (o4'.lt k hk).1)
  have B5 := Lib.hid (B4.out.trans (b5.mono B3.out.size))
  have o5' : w5.ownsRow w3.heap.size 9 1 v5 (ks ++ ms).length (txs6 (ks ++ ms)) := by
    have e : txs6 (ks ++ ms) = txs6 ks ++ txs6 ms := by simp [txs6]
    rw [List.length_append, e]
    exact o5
  obtain ⟨a5, c5, rfl, k5⟩ := keys_own o5' HSZ.out (by rw [List.length_append]; omega)
  have hcg := HG.out a5 c5 w5 k5
  rw [List.length_append] at hcg
  clear o4' o5 o5' g5 b5 k5 hs4
  go_wp2_with fail
  refine hcg.mono ?_
  rintro e w6 ⟨rfl, b6⟩
  have B6 := Lib.hid (B5.out.trans (b6.mono B5.out.size))
  clear b6 hcg hca hcb
  have e1 : ((fa.size : Int) != (fb.size : Int)) = false := by rw [j1, j2]; simp
  have e2 : ((fa.size : Int) != (fc.size : Int)) = false := by rw [j1]; simp
  go_wp2
  go_loopw [61] (fun iv wr => ∃ k : Nat, k ≤ fa.size ∧ iv = .int .i64 (k : Int) ∧ Hid (Below w.heap.size w wr)) (fun iv _ => fa.size - (intOf iv).toNat)
  case atStart => exact ⟨0, by omega, rfl, B6.out⟩
  case round =>
    obtain ⟨k, hk, rfl, HB⟩ := hrel
    by_cases hlt : k < fa.size
    · have hltb : k < fb.size := by omega
      have hltc : k < fc.size := by omega
      have hor := or_bytes (HJ.out k hlt hltb hltc)
      have i1 : (0 : Int) ≤ (k : Int) := Int.natCast_nonneg _
      have i2 : (k : Int) < (fa.size : Int) := Int.ofNat_lt.2 hlt
      have i3 : (k : Int) < (fb.size : Int) := Int.ofNat_lt.2 hltb
      have i4 : (k : Int) < (fc.size : Int) := Int.ofNat_lt.2 hltc
      go_wp2_with fail
      go_quiet (fail)
      have HB2 := Lib.hid (HB.out.trans ((drawnC _ nq).mono HB.out.size))
      go_wp2
      go_roundw
      case rel => exact ⟨k + 1, by omega, by go_num, HB2.out⟩
      case measure => simp [intOf]; omega
    · go_wp2
      go_ret
      exact ⟨rfl, HB.out⟩
end Go.Proofs.Ytfphfnpdibehnaa

/- Layer 1: the walks of VaryOrder, VaryOnce, VaryPuts out of the contracts. -/
import Derived.Test.YtaalncdelljhdaaW01c
namespace Go.Proofs.Ytaalncdelljhdaa
open Go.RowKit
set_option linter.unusedVariables false

set_option maxHeartbeats 400000 in
set_option maxRecDepth 100000 in
theorem order_walk (a : Int) (wa : (Lit.int .u64 a).wf = true) (b : Int) (wb : (Lit.int .u64 b).wf = true) (w : World) :
    Calls Try.prog 7 #[.int .u64 a, .int .u64 b] w fun e w' => e = .returned (.bool true) ∧ Below w.heap.size w w' := by
  obtain ⟨a, rfl, ha⟩ := u64_nat wa
  obtain ⟨b, rfl, hb⟩ := u64_nat wb
  have e1 := fixed_less ha hb
  have e2 := fixed_beq ha hb
  have e3 := fixedL_len a
  go_enter Try.func7, Try.ntmps7
  go_wp2_with fail
  refine (awake_any _).mono ?_
  rintro e w1 ⟨rfl, hb1⟩
  go_wp2_with fail
  refine (fixed_any _ ha _).mono ?_
  rintro e w2 ⟨rfl, hb2⟩
  go_wp2_with fail
  refine (fixed_any _ hb _).mono ?_
  rintro e w3 ⟨rfl, hb3⟩
  go_wp2
  go_ret
  exact ⟨rfl, hb1.trans ((hb2.trans (hb3.mono hb2.size)).mono hb1.size)⟩

theorem below6 {w w2 w3 w4 w5 w6 w7 w8 : World} (h1 : Below w.heap.size w w2) (h2 : Below w2.heap.size w2 w3) (h3 : Below w3.heap.size w3 w4) (h4 : Below w4.heap.size w4 w5) (h5 : Below w5.heap.size w5 w6)
    (h6 : Below w6.heap.size w6 w7) (h7 : Below w7.heap.size w7 w8) : Below w.heap.size w w8 :=
  below_next (below_next (below_next (below_next (below_next (below_next h1 (Nat.le_refl _) h2) (Nat.le_refl _) h3) (Nat.le_refl _) h4) (Nat.le_refl _) h5) (Nat.le_refl _) h6) (Nat.le_refl _) h7

theorem bytes_eq {t s : ByteArray} {k : Nat} {l : List UInt8} (h : l = s.data.toList.take k) (ht : t.data.toList = s.data.toList.drop k) : (⟨l.toArray⟩ : ByteArray) ++ t = s := by
  rw [text_form, ht, h]; simp

set_option maxHeartbeats 400000 in
set_option maxRecDepth 100000 in
theorem once_walk (s : ByteArray) (hs : s.size ≤ 140737488351232) (w : World) :
    Calls Try.prog 6 #[.string s] w fun e w' => e = .returned (.bool true) ∧ Below w.heap.size w w' := by
  go_enter Try.func6, Try.ntmps6
  go_wp2_with fail
  refine (awake_any _).mono ?_
  rintro e w1 ⟨rfl, hb1⟩
  go_wp2_with fail
  refine (get_any _ (by unfold maxLen; omega) _).mono ?_
  rintro e w2 ⟨he, nq, rfl⟩
  rcases he with ⟨n, k, t, hg, ht, rfl⟩ | ⟨hg, rfl⟩
  · obtain ⟨hn, hp, hk⟩ := getL_put hg
    have hl := putL_len10 hn
    have ht1 := congrArg List.length ht
    have hts : t.size ≤ 140737488351232 := by
      rw [List.length_drop] at ht1
      simp at ht1; omega
    have hE := bytes_eq hp ht
    have hl' : decide (((putL n).length : Int) ≤ 10) = true := by simp; omega
    clear hp ht hg ht1
    go_wp2_with fail
    refine (put_any _ hn _).mono ?_
    rintro e w2 ⟨rfl, hb2⟩
    go_wp2_with fail
    refine (put_any _ hn _).mono ?_
    rintro e w3 ⟨rfl, hb3⟩
    go_wp2
    go_ret
    exact ⟨rfl, (below_drewN hb1 nq).trans ((hb2.trans (hb3.mono hb2.size)).mono hb1.size)⟩
  · go_wp2
    go_ret
    exact ⟨rfl, below_drewN hb1 nq⟩

set_option maxHeartbeats 400000 in
set_option maxRecDepth 100000 in
theorem puts_walk (n : Int) (wn : (Lit.int .u64 n).wf = true) (s : ByteArray) (hs : s.size ≤ 140737488351232) (w : World) :
    Calls Try.prog 3 #[.int .u64 n, .string s] w fun e w' => e = .returned (.bool true) ∧ Below w.heap.size w w' := by
  obtain ⟨n, rfl, hn⟩ := u64_nat wn
  go_enter Try.func3, Try.ntmps3
  go_wp2_with fail
  refine (awake_any _).mono ?_
  rintro e w1 ⟨rfl, hb1⟩
  go_wp2_with fail
  refine (get_any _ (by unfold maxLen; omega) _).mono ?_
  rintro e w2 ⟨he, nq, rfl⟩
  rcases he with ⟨m, k, t, hg, ht, rfl⟩ | ⟨hg, rfl⟩
  · go_wp2_with fail
    refine (rget_any _ (by unfold maxLen; omega) _).mono ?_
    rintro e w2 ⟨he, hb2⟩
    rcases he with ⟨m', k', hg', rfl⟩ | ⟨hg', rfl⟩
    · obtain ⟨rfl, rfl⟩ : m' = m ∧ k' = k := by rw [hg] at hg'; simpa using hg'.symm
      obtain ⟨hk1, hk2⟩ := getL_pos hg
      have hk3 : k' ≤ s.size := by simpa using hk2
      obtain rfl : t = s.extract k' s.size := ByteArray.ext (Array.toList_inj.1 (by rw [ht, extract_drop]))
      clear hg hg' ht hk2
      have hkd : decide ((0 : Int) < (k' : Int)) = true := by simp; omega
      have hb4 := (below_drewN hb1 nq).trans (hb2.mono hb1.size)
      clear hb1 hb2
      go_wp2_with fail
      refine (put_any _ hn _).mono ?_
      rintro e w3 ⟨rfl, hb5⟩
      go_wp2_with fail
      refine (rput_any _ hn _).mono ?_
      rintro e w4 ⟨rfl, hb6⟩
      go_wp2_with fail
      refine (fixed_any _ hn _).mono ?_
      rintro e w5 ⟨rfl, hb7⟩
      go_wp2_with fail
      refine (rfixed_any _ hn _).mono ?_
      rintro e w6 ⟨rfl, hb8⟩
      go_wp2_with fail
      refine (text_any _ (by omega) _).mono ?_
      rintro e w7 ⟨rfl, hb9⟩
      go_wp2_with fail
      refine (rtext_any _ (by omega) _).mono ?_
      rintro e w8 ⟨rfl, hb10⟩
      go_wp2
      go_ret
      exact ⟨rfl, below6 hb4 hb5 hb6 hb7 hb8 hb9 hb10⟩
    · rw [hg] at hg'; cases hg'
  · go_wp2_with fail
    refine (rget_any _ (by unfold maxLen; omega) _).mono ?_
    rintro e w2 ⟨he, hb2⟩
    rcases he with ⟨m', k', hg', rfl⟩ | ⟨hg', rfl⟩
    · rw [hg] at hg'; cases hg'
    · have hb4 := (below_drewN hb1 nq).trans (hb2.mono hb1.size)
      clear hb1 hb2 hg hg'
      go_wp2_with fail
      refine (put_any _ hn _).mono ?_
      rintro e w3 ⟨rfl, hb5⟩
      go_wp2_with fail
      refine (rput_any _ hn _).mono ?_
      rintro e w4 ⟨rfl, hb6⟩
      go_wp2_with fail
      refine (fixed_any _ hn _).mono ?_
      rintro e w5 ⟨rfl, hb7⟩
      go_wp2_with fail
      refine (rfixed_any _ hn _).mono ?_
      rintro e w6 ⟨rfl, hb8⟩
      go_wp2_with fail
      refine (text_any _ (by omega) _).mono ?_
      rintro e w7 ⟨rfl, hb9⟩
      go_wp2_with fail
      refine (rtext_any _ (by omega) _).mono ?_
      rintro e w8 ⟨rfl, hb10⟩
      go_wp2
      go_ret
      exact ⟨rfl, below6 hb4 hb5 hb6 hb7 hb8 hb9 hb10⟩
end Go.Proofs.Ytaalncdelljhdaa

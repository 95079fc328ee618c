/- Layer 6: the walk of BloomHas, whatever the code. -/
import Derived.Test.YtfphfnpdibehnaaK06
namespace Go.Proofs.Ytfphfnpdibehnaa
open Go.RowKit
set_option linter.unusedVariables false

set_option maxHeartbeats 2000000 in
set_option maxRecDepth 100000 in
theorem has6_walk (K : BloomK) (a : Option Addr) (c : Nat) (ks : List ByteArray) (n : Int) (w : World) (h : Keys6 w a ks) (hn : (Lit.int .i64 n).wf = true) :
    Calls Try.prog 4 #[.slice a ks.length c, .int .i64 n] w fun e w' => e = .returned (.bool true) ∧ Below w.heap.size w w' := by
  have hmax := h.1.max
  have hsm := makeS_small ks n
  have HR : Hid (1 ≤ n ∧ n ≤ 8192 → ((makeS ks n).size : Int) = n ∧ makeE n = 0 ∧ ∀ s ∈ ks, hasK6 (makeS ks n).data.toList s = true) := fun hr => ⟨makeS_size ks hr, by unfold makeE; rw [if_pos hr], fun s hs => makeS_mem hs hr⟩
  have HN : Hid (¬ (1 ≤ n ∧ n ≤ 8192) → makeS ks n = ⟨#[]⟩ ∧ makeE n = 1) := fun hr => ⟨by unfold makeS; rw [if_neg hr], by unfold makeE; rw [if_neg hr]⟩
  have hcall := fun w' (b : Below w.heap.size w w') => K.make a c ks w' (h.below b) n hn
  generalize makeS ks n = f at *
  generalize makeE n = e0 at *
  have H := Lib.hid h
  clear h hn
  go_enter Try.func4, Try.ntmps4
  go_wp2_with fail
  refine (awake6_any K _).mono ?_
  rintro e w1 ⟨rfl, b1⟩
  go_wp2_with fail
  refine (hcall _ b1).mono ?_
  rintro e w2 ⟨rfl, b2⟩
  have B2 := Lib.hid (b1.trans (b2.mono b1.size))
  clear b1 b2 hcall
  by_cases hr : 1 ≤ n ∧ n ≤ 8192
  · obtain ⟨hs, rfl, hm⟩ := HR.out hr
    have HM := Lib.hid hm
    clear HN HR hm
    go_wp2
    go_loopw [31] (fun iv wr => ∃ k : Nat, k ≤ ks.length ∧ iv = .int .i64 (k : Int) ∧ Hid (Below w.heap.size w wr)) (fun iv _ => ks.length - (intOf iv).toNat)
    case atStart => exact ⟨0, by omega, rfl, B2.out⟩
    case round =>
      obtain ⟨k, hk, rfl, HB⟩ := hrel
      by_cases hlt : k < ks.length
      · obtain ⟨b, off, rfl, hc⟩ := H.out.1.in HB.out hlt
        have hgd : ks.getD k ByteArray.empty = ks[k] := by simp [List.getD, hlt]
        have hz := H.out.2 k
        have hmm := HM.out ks[k] (List.getElem_mem hlt)
        rw [hgd] at hc hz
        generalize ks[k] = s at *
        go_wp2_with fail
        refine (K.has f s _ hsm hz).mono ?_
        rintro e w3 ⟨rfl, b3⟩
        rw [hmm]
        have B3 := Lib.hid (HB.out.trans (b3.mono HB.out.size))
        clear b3 hc
        go_wp2
        go_roundw
        case rel => exact ⟨k + 1, by omega, by go_num, B3.out⟩
        case measure => simp [intOf]; omega
      · go_wp2
        go_ret
        exact ⟨rfl, HB.out⟩
  · obtain ⟨rfl, rfl⟩ := HN.out hr
    clear HR HN
    by_cases h1 : n < 1
    · go_wp2
      go_ret
      exact ⟨rfl, B2.out⟩
    · have h2 : 8192 < n := by omega
      go_wp2
      go_ret
      exact ⟨rfl, B2.out⟩
end Go.Proofs.Ytfphfnpdibehnaa

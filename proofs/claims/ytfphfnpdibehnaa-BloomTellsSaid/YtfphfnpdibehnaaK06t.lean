/- Layer 6: the walk of BloomTells, whatever the code. -/
import Derived.Test.YtfphfnpdibehnaaK06
namespace Go.Proofs.Ytfphfnpdibehnaa
open Go.RowKit
set_option linter.unusedVariables false

set_option maxHeartbeats 2000000 in
set_option maxRecDepth 100000 in
theorem tells6_walk (K : BloomK) (a : Option Addr) (c : Nat) (ks : List ByteArray) (n : Int) (key filter : ByteArray) (w : World) (h : Keys6 w a ks) (hn : (Lit.int .i64 n).wf = true) (hk : key.size ≤ 140737488351232) (hf : filter.size ≤ 140737488351232) :
    Calls Try.prog 3 #[.agg #[.slice a ks.length c, .int .i64 n, .string key, .string filter]] w fun e w' => e = .returned (.bool true) ∧ Below w.heap.size w w' := by
  have hmax := h.1.max
  have hsm := makeS_small ks n
  have hcall := fun w' (b : Below w.heap.size w w') => K.make a c ks w' (h.below b) n hn
  have href := fun w' (b : Below w.heap.size w w') => rmake_any a c ks w' (h.below b).1 (fun i => by have := h.2 i; unfold maxLen; omega) n hn
  have hk' : key.size ≤ maxLen := by unfold maxLen; omega
  have hf' : filter.size ≤ maxLen := by unfold maxLen; omega
  have hs' : (makeS ks n).size ≤ maxLen := by unfold maxLen; omega
  have hA := hashA_lt key
  have hB := hashB_lt key
  have hHs := fun w => K.hash key w hk
  have hHr := fun w => rhash_any key hk' w
  have hnw := heap_alloc_new w (.cells #[.slice a ks.length c, .int .i64 n, .string key, .string filter] 24)
  have hbw : Below w.heap.size w (w.alloc (.cells #[.slice a ks.length c, .int .i64 n, .string key, .string filter] 24)) := (Below.refl _ w).alloc (Nat.le_refl _) _
  generalize makeS ks n = f at *
  generalize makeE n = e0 at *
  generalize hashA key = ha at *
  generalize hashB key = hb at *
  have q0 : (w.alloc (.cells #[.slice a ks.length c, .int .i64 n, .string key, .string filter] 24)).cell? ⟨w.heap.size, 0, none⟩ = some (.slice a ks.length c) := by rw [block_cell hnw]; rfl
  have q1 : (w.alloc (.cells #[.slice a ks.length c, .int .i64 n, .string key, .string filter] 24)).cell? ⟨w.heap.size, 1, none⟩ = some (.int .i64 n) := by rw [block_cell hnw]; rfl
  have q2 : (w.alloc (.cells #[.slice a ks.length c, .int .i64 n, .string key, .string filter] 24)).cell? ⟨w.heap.size, 2, none⟩ = some (.string key) := by rw [block_cell hnw]; rfl
  have q3 : (w.alloc (.cells #[.slice a ks.length c, .int .i64 n, .string key, .string filter] 24)).cell? ⟨w.heap.size, 3, none⟩ = some (.string filter) := by rw [block_cell hnw]; rfl
  have BW := Lib.hid hbw
  clear hnw hbw h hn
  go_enter Try.func3, Try.ntmps3
  go_wp2_with fail
  go_quiet (fail)
  have B0 := Lib.hid (BW.out.trans ((drawnC _ nq).mono BW.out.size))
  clear q0 q1 q2 q3
  generalize w.alloc (.cells #[.slice a ks.length c, .int .i64 n, .string key, .string filter] 24) = wx at *
  generalize wx.drewN nq = w0 at *
  go_wp2_with fail
  refine (awake6_any K _).mono ?_
  rintro e w1 ⟨rfl, b1⟩
  have B1 := Lib.hid (B0.out.trans (b1.mono B0.out.size))
  clear b1
  go_wp2_with fail
  refine (hHs _).mono ?_
  rintro e w2 ⟨rfl, b2⟩
  have B2 := Lib.hid (B1.out.trans (b2.mono B1.out.size))
  clear b2
  go_wp2_with fail
  refine (hHr _).mono ?_
  rintro e w3 ⟨rfl, rfl⟩
  go_wp2_with fail
  refine (hcall _ B2.out).mono ?_
  rintro e w4 ⟨rfl, b4⟩
  have B4 := Lib.hid (B2.out.trans (b4.mono B2.out.size))
  clear b4
  go_wp2_with fail
  refine (href _ B4.out).mono ?_
  rintro e w5 ⟨rfl, b5⟩
  have B5 := Lib.hid (B4.out.trans (b5.mono B4.out.size))
  clear b5
  go_wp2_with fail
  refine (K.has filter key _ hf hk).mono ?_
  rintro e w6 ⟨rfl, b6⟩
  have B6 := Lib.hid (B5.out.trans (b6.mono B5.out.size))
  clear b6
  go_wp2_with fail
  refine (rhas_any filter key hf' hk' _).mono ?_
  rintro e w7 ⟨rfl, b7⟩
  have B7 := Lib.hid (B6.out.trans (b7.mono B6.out.size))
  clear b7
  generalize hasK6 filter.data.toList key = x1 at *
  go_wp2_with fail
  refine (K.has f key _ hsm hk).mono ?_
  rintro e w8 ⟨rfl, b8⟩
  have B8 := Lib.hid (B7.out.trans (b8.mono B7.out.size))
  clear b8
  go_wp2_with fail
  refine (rhas_any f key hs' hk' _).mono ?_
  rintro e w9 ⟨rfl, b9⟩
  have B9 := Lib.hid (B8.out.trans (b9.mono B8.out.size))
  clear b9
  generalize hasK6 f.data.toList key = x2 at *
  go_wp2
  go_ret
  exact ⟨rfl, B9.out⟩
end Go.Proofs.Ytfphfnpdibehnaa

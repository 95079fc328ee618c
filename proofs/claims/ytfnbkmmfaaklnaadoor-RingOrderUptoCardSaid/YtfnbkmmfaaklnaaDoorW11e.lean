/- Layer 11: the contract of the program's Name; the laws' awake. -/
import Derived.Test.YtfnbkmmfaaklnaaDoorW11d
import Derived.Test.YtfnbkmmfaaklnaaDoorWTab
import Derived.Lib.ItoaLen
namespace Go.Proofs.YtfnbkmmfaaklnaaDoor
open Go.RowKit
set_option linter.unusedVariables false

/-- A shard's name. -/
def nameB (n : Int) : ByteArray := ⟨#[115, 104, 97, 114, 100, 32]⟩ ++ ⟨(Lib.itoa (max n 0)).toArray⟩
theorem itoa_any11 {w : World} (ht : Tab w) (n : Int) (h0 : 0 ≤ n) (hn : n ≤ 9223372036854775807) :
    Calls Tryd.prog 20 #[.int .i64 n] w fun e w' => e = .returned (.string ⟨(Lib.itoa n).toArray⟩) ∧ Below w.heap.size w w' :=
  (Sh.strconv_Itoa n (by omega) hn w ht).mono fun e w' ⟨he, k, os, hw⟩ => ⟨he, by rw [hw]; exact Lib.below_grow _ _ (Nat.le_refl _) k os⟩

set_option maxRecDepth 100000 in
theorem name_any {w : World} (ht : Tab w) (n : Int) (hn : (Lit.int .i64 n).wf = true) :
    Calls Tryd.prog 12 #[.int .i64 n] w fun e w' => e = .returned (.string (nameB n)) ∧ Below w.heap.size w w' := by
  have hnb := bounds_i64 hn
  clear hn
  obtain ⟨m, hm⟩ : ∃ m, max n 0 = m := ⟨_, rfl⟩
  have h0 : 0 ≤ m := by omega
  have h1 : m ≤ 9223372036854775807 := by omega
  have hc := itoa_any11 ht m h0 h1
  have hl := Lib.itoa_length_le m (by omega) h1
  have HN : Hid (nameB n = ⟨#[115, 104, 97, 114, 100, 32]⟩ ++ ⟨(Lib.itoa m).toArray⟩) := Lib.hid (by unfold nameB; rw [hm])
  have hz : (⟨(Lib.itoa m).toArray⟩ : ByteArray).size ≤ 21 := by show (Lib.itoa m).toArray.size ≤ 21; simpa using hl
  generalize (⟨(Lib.itoa m).toArray⟩ : ByteArray) = t at *
  go_enter Tryd.func12, Tryd.ntmps12
  go_wp2_with fail
  refine hc.mono ?_
  rintro e w1 ⟨rfl, b1⟩
  go_wp2
  go_ret
  exact ⟨by rw [HN.out]; rfl, b1⟩

set_option maxRecDepth 100000 in
theorem right_half (w : World) :
    Calls Tryd.prog 16 #[.complex .f64 4602678819172646912 0] w fun e w' => e = .returned (.bool false) ∧ w' = w := by
  have hx := abs_any 4602678819172646912 4602678819172646912 (by decide +kernel)
  have hy := abs_any 0 0 (by decide +kernel)
  have hd : FloatKind.f64.decode 4602678819172646912 = .number false 4503599627370496 (-53) := by decide +kernel
  have he : FloatKind.f64.encode ((Ieee.Datum.number false 4503599627370496 (-53)).integral .down) = 0 := by decide +kernel
  have h1 : ∀ w, (callFunc 28 #[.float .f64 4602678819172646912]).run Tryd.prog w = .ok (.value (.float .f64 0)) w := fun w => by rw [floor_run hd, he]
  have fx : ∀ w, Calls Tryd.prog 24 #[.float .f64 4602678819172646912] w fun e w' => e = .returned (.float .f64 0) ∧ w' = w := by
    intro w
    go_enter Tryd.func24, Tryd.ntmps24
    go_wp2
    all_goals (go_ret; exact ⟨rfl, rfl⟩)
  have ho : FloatKind.f64.format.order 4602678819172646912 0 = some .gt := by decide +kernel
  clear hd he h1
  generalize (4602678819172646912 : Nat) = b at *
  go_enter Tryd.func16, Tryd.ntmps16
  go_wp2_with fail
  refine (hx _).mono ?_
  rintro e w1 ⟨rfl, rfl⟩
  go_wp2_with fail
  refine (hy _).mono ?_
  rintro e w1 ⟨rfl, rfl⟩
  go_wp2_with fail
  refine (fx _).mono ?_
  rintro e w1 ⟨rfl, rfl⟩
  go_wp2
  go_ret
  exact ⟨rfl, rfl⟩

theorem pl_words : plX 0 = 4652218415073722368 ∧ plY 0 = 0 ∧ plX 1024 = 0 ∧ plY 1024 = 4652218415073722368 ∧ plX 1 = 4652209618980700160 ∧ plY 1 = 4607182418800017408 := by decide +kernel
theorem name_3 : nameB 3 = ⟨#[115, 104, 97, 114, 100, 32, 51]⟩ := by
  unfold nameB
  rw [show max (3 : Int) 0 = 3 from rfl]
  unfold Lib.itoa
  rw [if_neg (by decide), show (3 : Int).toNat = 3 from rfl, Lib.decDigits_one (by decide)]
  rfl
def hB : ByteArray := ⟨#[104]⟩
def kB11 : ByteArray := ⟨#[107]⟩
theorem own_one (d : ByteArray → Nat) (h : d hB < 4096) : ownO d [hB] = hB := by
  show (stepO d (⟨#[]⟩, 4096) hB).1 = hB
  rw [stepO_to (.inl h)]

set_option maxHeartbeats 1000000 in
set_option maxRecDepth 100000 in
theorem awake11_any {w : World} (ht : Tab w) : Calls Tryd.prog 7 #[] w fun e w' => e = .returned (.bool true) ∧ Below w.heap.size w w' := by
  have hk : Row1 (w.alloc (.cells #[.string ⟨#[104]⟩] 9)) (some ⟨w.heap.size, 0, none⟩) [hB].length (fun i => .string ([hB].getD i ByteArray.empty)) := by
    refine ⟨by decide, .inr ⟨w.heap.size, 0, rfl, by simp, fun i hi => ?_⟩⟩
    rw [block_cell (heap_alloc_new _ _)]
    match i, hi with
    | 0, _ => rfl
  have hks : ∀ i, ([hB].getD i ByteArray.empty).size ≤ maxLen := fun i => by
    match i with
    | 0 => decide
    | i + 1 => exact Nat.zero_le _
  have hb : Below w.heap.size w (w.alloc (.cells #[.string ⟨#[104]⟩] 9)) := (Below.refl _ w).alloc (Nat.le_refl _) _
  have ho := owner_any _ 1 [hB] kB11 _ hk hks (by decide)
  rw [own_one _ (farN_lt _ _)] at ho
  have t1 := turn_any 0 1024 (by decide) (by decide) w
  have t2 := turn_any 1 0 (by decide) (by decide) w
  obtain ⟨p1, p2, p3, p4, p5, p6⟩ := pl_words
  rw [p1, p2, p3, p4, show turnN 0 1024 = 1024 from rfl] at t1
  rw [p1, p2, p5, p6, show turnN 1 0 = 4095 from rfl] at t2
  have hn := name_any (ht.below hb) 3 (by decide)
  rw [name_3] at hn
  have hr := right_half
  have hbl : hB.toList = [104] := by decide +kernel
  have HB0 := Lib.hid hb
  have HO := Lib.hid ho
  have HN := Lib.hid hn
  have T1 := Lib.hid t1
  have T2 := Lib.hid t2
  clear hk hb ho hn t1 t2 p1 p2 p3 p4 p5 p6
  go_enter Tryd.func7, Tryd.ntmps7
  go_wp2_with fail
  refine T1.out.mono ?_
  rintro e w1 ⟨rfl, rfl⟩
  go_wp2_with fail
  refine T2.out.mono ?_
  rintro e w1 ⟨rfl, rfl⟩
  go_wp2_with fail
  refine HO.out.mono ?_
  rintro e w1 ⟨rfl, rfl⟩
  go_wp2_with fail
  refine (hr _).mono ?_
  rintro e w1 ⟨rfl, rfl⟩
  go_wp2_with fail
  refine HN.out.mono ?_
  rintro e w1 ⟨rfl, b1⟩
  have B1 := Lib.hid (HB0.out.trans (b1.mono HB0.out.size))
  go_wp2
  go_ret
  exact ⟨rfl, B1.out⟩
end Go.Proofs.YtfnbkmmfaaklnaaDoor

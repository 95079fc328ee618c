/- Layer 11: the contracts of the program's Right, positionAt, stepsTo, Turn at places. -/
import Derived.Test.YtfnbkmmfaaklnaaDoorW11
namespace Go.Proofs.YtfnbkmmfaaklnaaDoor
open Go.RowKit
set_option linter.unusedVariables false

/-- The parts of the place t steps round, as words. -/
def plX (t : Nat) : Nat := flN (partX t)
def plY (t : Nat) : Nat := flN (partY t)
theorem part_sum (t : Nat) (ht : t < 4096) : (partX t).natAbs + (partY t).natAbs = 1024 := by
  unfold partX partY
  have := Nat.mod_lt t (show 0 < 1024 by decide)
  split <;> (try split) <;> (try split) <;> omega
theorem abs_word {k : Int} (h1 : -1024 ≤ k) (h2 : k ≤ 1024) : bits .andNot .u64 (flN k : Nat) 9223372036854775808 = ((flN (k.natAbs : Int) : Nat) : Int) := by
  have h := abs_fin ⟨(k + 1024).toNat, by omega⟩
  have e : (((⟨(k + 1024).toNat, by omega⟩ : Fin 2049).val : Nat) : Int) - 1024 = k := by show (((k + 1024).toNat : Nat) : Int) - 1024 = k; omega
  rw [e] at h
  exact h
theorem order_self {k : Int} (h1 : -1024 ≤ k) (h2 : k ≤ 1024) : FloatKind.f64.format.order (flN k) (flN k) = some .eq := by
  have := isN_self ⟨h1, h2⟩ ⟨h1, h2⟩
  rw [decide_eq_true rfl] at this
  exact eq_of_beq this
theorem sum_word {n : Nat} (h : n ≤ 1024) : FloatKind.f64.format.add (flN (n : Int)) (flN ((1024 - n : Nat) : Int)) = some wS := by
  have h := sum_fin ⟨n, by omega⟩
  rwa [show (1024 : Int) - ((⟨n, by omega⟩ : Fin 1025).val : Int) = ((1024 - n : Nat) : Int) by show (1024 : Int) - (n : Int) = _; omega] at h

set_option maxRecDepth 100000 in
theorem right_any (t : Nat) (ht : t < 4096) (w : World) :
    Calls Tryd.prog 16 #[.complex .f64 (plX t) (plY t)] w fun e w' => e = .returned (.bool true) ∧ w' = w := by
  unfold plX plY
  have hs := part_sum t ht
  have hp := part_in t
  generalize partX t = x at *
  generalize partY t = y at *
  have hx := abs_any _ _ (abs_word hp.1.1 hp.1.2)
  have hy := abs_any _ _ (abs_word hp.2.1 hp.2.2)
  have fx := floor_any x.natAbs (by omega)
  have fy := floor_any y.natAbs (by omega)
  have ox := order_self (k := (x.natAbs : Int)) (by omega) (by omega)
  have oy := order_self (k := (y.natAbs : Int)) (by omega) (by omega)
  have ha := sum_word (n := x.natAbs) (by omega)
  rw [show 1024 - x.natAbs = y.natAbs by omega] at ha
  have hop : ∀ w, (binOp .add 44 (.float .f64 (flN (x.natAbs : Int))) (.float .f64 (flN (y.natAbs : Int)))).run Tryd.prog w = .ok (.float .f64 4652218415073722368) w := fun w => run_float_arith w .add _ .f64 _ _ _ ha
  have oS : FloatKind.f64.format.order 4652218415073722368 4652218415073722368 = some .eq := by decide +kernel
  generalize flN (x.natAbs : Int) = ax at *
  generalize flN (y.natAbs : Int) = ay at *
  clear ha hs hp
  generalize flN x = bx at *
  generalize flN y = bY at *
  go_enter Tryd.func16, Tryd.ntmps16
  go_wp2_with fail
  refine (hx _).mono ?_
  rintro e w1 ⟨rfl, rfl⟩
  go_wp2_with fail
  refine (hy _).mono ?_
  rintro e w1 ⟨rfl, rfl⟩
  go_wp2_with fail
  refine (fx _).mono ?_
  rintro e w1 ⟨rfl, rfl⟩
  go_wp2_with fail
  refine (fy _).mono ?_
  rintro e w1 ⟨rfl, rfl⟩
  go_wp2
  go_ret
  exact ⟨rfl, rfl⟩

/-- A word of a whole number; 0 has two. -/
def isW (x : Nat) (n : Int) : Prop := x = flN n ∨ (n = 0 ∧ x = wZ)
def zB (z : Bool) : Nat := if z then wZ else 0
theorem isW.mul0 {a : Nat} {x : Int} (h : isW a x) (h1 : -1024 ≤ x) (h2 : x ≤ 1024) : ∃ z, FloatKind.f64.format.mul a 0 = some (zB z) := by
  rcases h with rfl | ⟨rfl, rfl⟩
  · exact ⟨decide (x < 0), by rw [mul_0 h1 h2]; unfold zB; by_cases e : x < 0 <;> simp [e]⟩
  · exact ⟨true, by decide +kernel⟩
theorem isW.mulM {a : Nat} {x : Int} (h : isW a x) (h1 : -1024 ≤ x) (h2 : x ≤ 1024) : ∃ c, FloatKind.f64.format.mul a wM = some c ∧ isW c (-x) := by
  rcases h with rfl | ⟨rfl, rfl⟩
  · by_cases e : x = 0
    · exact ⟨wZ, by rw [mul_M h1 h2, if_pos e], .inr ⟨by omega, rfl⟩⟩
    · exact ⟨flN (-x), by rw [mul_M h1 h2, if_neg e], .inl rfl⟩
  · exact ⟨flN 0, by decide +kernel, .inl rfl⟩
theorem isW.sub {a : Nat} {x : Int} (h : isW a x) (h1 : -1024 ≤ x) (h2 : x ≤ 1024) (z : Bool) : ∃ c, FloatKind.f64.format.sub (zB z) a = some c ∧ isW c (-x) := by
  rcases h with rfl | ⟨rfl, rfl⟩
  · by_cases e : x = 0 ∧ z = true
    · exact ⟨wZ, by rw [zB, sub_z h1 h2, if_pos e], .inr ⟨by omega, rfl⟩⟩
    · exact ⟨flN (-x), by rw [zB, sub_z h1 h2, if_neg e], .inl rfl⟩
  · cases z
    · exact ⟨flN 0, by decide +kernel, .inl rfl⟩
    · exact ⟨flN 0, by decide +kernel, .inl rfl⟩
theorem isW.add {a : Nat} {x : Int} (h : isW a x) (h1 : -1024 ≤ x) (h2 : x ≤ 1024) (z : Bool) : ∃ c, FloatKind.f64.format.add a (zB z) = some c ∧ isW c x := by
  rcases h with rfl | ⟨rfl, rfl⟩
  · exact ⟨_, add_z h1 h2 z, .inl rfl⟩
  · cases z
    · exact ⟨flN 0, by decide +kernel, .inl rfl⟩
    · exact ⟨wZ, by decide +kernel, .inr ⟨rfl, rfl⟩⟩
theorem isW.add0 {a : Nat} {x : Int} (h : isW a x) (h1 : -1024 ≤ x) (h2 : x ≤ 1024) : FloatKind.f64.format.add a 0 = some (flN x) := by
  rcases h with rfl | ⟨rfl, rfl⟩
  · exact add_z h1 h2 false
  · decide +kernel
theorem isW.order {a : Nat} {x : Int} (h : isW a x) (h1 : -1024 ≤ x) (h2 : x ≤ 1024) : FloatKind.f64.format.order a 0 = some (compare x 0) := by
  rcases h with rfl | ⟨rfl, rfl⟩
  · exact order_0 h1 h2
  · decide +kernel
theorem isW.int {a : Nat} {n : Nat} (h : isW a (n : Int)) (h2 : n ≤ 1024) : floatToIntVal .f64 a .i64 = some (n : Int) := by
  rcases h with rfl | ⟨h, rfl⟩
  · exact int_fin ⟨n, by omega⟩
  · rw [h]; decide +kernel
/-- A side further: p * 1i + 0. -/
theorem side_words {x y : Int} (hx : -1024 ≤ x ∧ x ≤ 1024) (hy : -1024 ≤ y ∧ y ≤ 1024) : ∃ re im, cMulBits (flN x) (flN y) 0 w1 = some (re, im) ∧ cSumBits .add .f64 re im 0 0 = some (flN (-y), flN x) := by
  obtain ⟨zx, h1⟩ := isW.mul0 (.inl rfl) hx.1 hx.2
  obtain ⟨zy, h2⟩ := isW.mul0 (.inl rfl) hy.1 hy.2
  obtain ⟨re, h3, hre⟩ := isW.sub (.inl rfl) hy.1 hy.2 zx
  obtain ⟨im, h4, him⟩ := isW.add (.inl rfl) hx.1 hx.2 zy
  have h5 := mul_1 hx.1 hx.2
  have h6 := mul_1 hy.1 hy.2
  refine ⟨re, im, ?_, ?_⟩
  · unfold cMulBits floatBits
    simp only [h1, h6, h3, h5, h2, h4, Option.bind_some]
  · unfold cSumBits floatBits
    simp only [hre.add0 (by omega) (by omega), him.add0 hx.1 hx.2, Option.bind_some]
/-- A quarter back: p * -1i. -/
theorem back_words {a b : Nat} {x y : Int} (ha : isW a x) (hb : isW b y) (hx : -1024 ≤ x ∧ x ≤ 1024) (hy : -1024 ≤ y ∧ y ≤ 1024) : ∃ re im, cMulBits a b 0 wM = some (re, im) ∧ isW re y ∧ isW im (-x) := by
  obtain ⟨zx, h1⟩ := ha.mul0 hx.1 hx.2
  obtain ⟨zy, h2⟩ := hb.mul0 hy.1 hy.2
  obtain ⟨c, h3, hc⟩ := hb.mulM hy.1 hy.2
  obtain ⟨d, h4, hd⟩ := ha.mulM hx.1 hx.2
  obtain ⟨re, h5, hre⟩ := hc.sub (by omega) (by omega) zx
  obtain ⟨im, h6, him⟩ := hd.add (by omega) (by omega) zy
  refine ⟨re, im, ?_, by simpa using hre, him⟩
  unfold cMulBits floatBits
  simp only [h1, h3, h5, h4, h2, h6, Option.bind_some]
theorem part_next {t : Nat} (ht : t < 3072) : partX (t + 1024) = -partY t ∧ partY (t + 1024) = partX t := by
  unfold partX partY
  have h1 : (t + 1024) % 1024 = t % 1024 := by omega
  have h2 : (t + 1024) / 1024 = t / 1024 + 1 := by omega
  have := Nat.mod_lt t (show 0 < 1024 by decide)
  rw [h1, h2]
  rcases (by omega : t / 1024 = 0 ∨ t / 1024 = 1 ∨ t / 1024 = 2) with h | h | h <;> rw [h] <;> simp <;> omega
theorem part_first {t : Nat} (ht : t < 1024) : partX t = ((1024 - t : Nat) : Int) ∧ partY t = (t : Int) := by
  unfold partX partY
  have h1 : t % 1024 = t := by omega
  have h2 : t / 1024 = 0 := by omega
  rw [h1, h2]; simp; omega

set_option maxRecDepth 100000 in
theorem position_any (t : Nat) (ht : t < 4096) (w : World) :
    Calls Tryd.prog 21 #[.int .i64 (t : Int)] w fun e w' => e = .returned (.complex .f64 (plX t) (plY t)) ∧ w' = w := by
  obtain ⟨q, hq⟩ : ∃ q, t / 1024 = q := ⟨_, rfl⟩
  obtain ⟨r, hr⟩ : ∃ r, t % 1024 = r := ⟨_, rfl⟩
  have e1 : (t : Int) % 1024 = (r : Int) := by omega
  have e2 : (t : Int) / 1024 = (q : Int) := by omega
  have hr2 : r < 1024 := by omega
  have hq2 : q < 4 := by omega
  have HT : Hid (t = q * 1024 + r) := Lib.hid (by omega)
  clear hq hr
  have f0 : Hid (partX r = ((1024 - r : Nat) : Int) ∧ partY r = (r : Int)) := Lib.hid (part_first hr2)
  go_enter Tryd.func21, Tryd.ntmps21
  go_wp2
  go_loop [4, 15] (fun p i => ∃ (k : Nat), k ≤ q ∧ i = .int .i64 (k : Int) ∧ p = .complex .f64 (plX (k * 1024 + r)) (plY (k * 1024 + r))) (fun _ i => q - (intOf i).toNat)
  case atStart =>
    refine ⟨0, by omega, rfl, ?_⟩
    rw [show 0 * 1024 + r = r by omega]
    unfold plX plY
    rw [f0.out.1, f0.out.2, show ((1024 - r : Nat) : Int) = 1024 - (r : Int) by omega]
    rfl
  case round =>
    obtain ⟨k, hk, rfl, rfl⟩ := hrel
    by_cases hlt : k < q
    · have hu : k * 1024 + r < 3072 := by omega
      have hp := part_in (k * 1024 + r)
      obtain ⟨re, im, h1, h2⟩ := side_words hp.1 hp.2
      have hn := part_next hu
      have HX : Hid (plX ((k + 1) * 1024 + r) = flN (-partY (k * 1024 + r)) ∧ plY ((k + 1) * 1024 + r) = flN (partX (k * 1024 + r))) := by
        rw [show (k + 1) * 1024 + r = k * 1024 + r + 1024 by omega]
        unfold plX plY
        rw [hn.1, hn.2]
        exact ⟨rfl, rfl⟩
      have o1 : ∀ w, (binOp .mul 33 (.complex .f64 (plX (k * 1024 + r)) (plY (k * 1024 + r))) (.complex .f64 0 4607182418800017408)).run Tryd.prog w = .ok (.complex .f64 re im) w := fun w => run_complex_mul w _ _ _ _ _ _ _ h1
      have o2 : ∀ w, (binOp .add 33 (.complex .f64 re im) (.complex .f64 0 0)).run Tryd.prog w = .ok (.complex .f64 (plX ((k + 1) * 1024 + r)) (plY ((k + 1) * 1024 + r))) w := fun w => by rw [HX.out.1, HX.out.2]; exact run_complex_sum w .add (.inl rfl) _ _ _ _ _ _ _ _ h2
      clear h1 h2 hn hp
      generalize plX (k * 1024 + r) = a1 at *
      generalize plY (k * 1024 + r) = b1 at *
      generalize ha2 : plX ((k + 1) * 1024 + r) = a2 at *
      generalize hb2 : plY ((k + 1) * 1024 + r) = b2 at *
      go_wp2
      go_round
      case rel => exact ⟨k + 1, by omega, by go_num, by rw [ha2, hb2]⟩
      case measure => simp [intOf]; omega
    · obtain rfl : k = q := by omega
      rw [← HT.out]
      go_wp2
      go_ret
      exact ⟨rfl, rfl⟩

/-- Not on the first side. -/
theorem not_first {t : Nat} (h1 : 1024 ≤ t) (h2 : t < 4096) : partX t < 0 ∨ partX t = 0 ∨ (0 < partX t ∧ partY t < 0) := by
  unfold partX partY
  have := Nat.mod_lt t (show 0 < 1024 by decide)
  rcases (by omega : t / 1024 = 1 ∨ t / 1024 = 2 ∨ t / 1024 = 3) with h | h | h <;> rw [h] <;> simp <;> omega
theorem compare_lt {x : Int} (h : x < 0) : compare x 0 = .lt := by simp only [compare, compareOfLessAndEq, h, if_true]
theorem compare_gt {x : Int} (h : 0 < x) : compare x 0 = .gt := by simp only [compare, compareOfLessAndEq, show ¬ x < 0 by omega, show ¬ x = 0 by omega, if_false]
theorem compare_0 : compare (0 : Int) 0 = .eq := rfl

set_option maxRecDepth 100000 in
theorem steps_any (t : Nat) (ht : t < 4096) (w : World) :
    Calls Tryd.prog 22 #[.complex .f64 (plX t) (plY t)] w fun e w' => e = .returned (.int .i64 (t : Int)) ∧ w' = w := by
  have HP : Hid (∃ a b, plX t = a ∧ plY t = b ∧ isW a (partX t) ∧ isW b (partY t)) := Lib.hid ⟨_, _, rfl, rfl, .inl rfl, .inl rfl⟩
  generalize plX t = a0 at *
  generalize plY t = b0 at *
  go_enter Tryd.func22, Tryd.ntmps22
  go_wp2
  go_loop [0, 4] (fun p i => ∃ (k : Nat) (a b : Nat), k * 1024 ≤ t ∧ i = .int .i64 (k : Int) ∧ p = .complex .f64 a b ∧ isW a (partX (t - k * 1024)) ∧ isW b (partY (t - k * 1024))) (fun _ i => 4 - (intOf i).toNat)
  case atStart =>
    obtain ⟨a, b, rfl, rfl, ha, hb⟩ := HP.out
    exact ⟨0, _, _, by omega, rfl, rfl, by simpa using ha, by simpa using hb⟩
  case round =>
    obtain ⟨k, a, b, hk, rfl, rfl, ha, hb⟩ := hrel
    have hk4 : k < 4 := by omega
    by_cases hlt : t - k * 1024 < 1024
    · obtain ⟨r, hr⟩ : ∃ r, t - k * 1024 = r := ⟨_, rfl⟩
      rw [hr] at ha hb hlt
      have hp := part_first hlt
      have o1 := ha.order (part_in r).1.1 (part_in r).1.2
      have o2 := hb.order (part_in r).2.1 (part_in r).2.2
      rw [hp.2] at hb
      have hi := hb.int (by omega)
      have h3 : ∀ w, (convert 44 3 (.float .f64 b)).run Tryd.prog w = .ok (.int .i64 (r : Int)) w := fun w => run_convert_float_int w _ _ _ _ _ _ (by kernel_rfl) Tryd.underlying3 hi
      rw [hp.1, compare_gt (by omega)] at o1
      have HT : Hid ((k : Int) * 1024 + (r : Int) = (t : Int)) := Lib.hid (by omega)
      have o3 : FloatKind.f64.format.order b 0 = some .gt ∨ FloatKind.f64.format.order b 0 = some .eq := by
        rw [o2, hp.2]
        by_cases h0 : r = 0
        · right; rw [h0]; rfl
        · left; rw [compare_gt (by omega)]
      clear ha hb hp hi o2
      rcases o3 with o3 | o3
      · go_wp2
        go_ret
        exact ⟨by rw [← HT.out]; rfl, rfl⟩
      · go_wp2
        go_ret
        exact ⟨by rw [← HT.out]; rfl, rfl⟩
    · obtain ⟨r, hr⟩ : ∃ r, t - k * 1024 = r + 1024 := ⟨t - k * 1024 - 1024, by omega⟩
      rw [hr] at ha hb
      have hr2 : r < 3072 := by omega
      have hp := part_in (r + 1024)
      obtain ⟨re, im, h1, h2, h3⟩ := back_words ha hb hp.1 hp.2
      have hn := part_next hr2
      have o1 := ha.order hp.1.1 hp.1.2
      have o2 := hb.order hp.2.1 hp.2.2
      have hnf := not_first (t := r + 1024) (by omega) (by omega)
      have hop : ∀ w, (binOp .mul 33 (.complex .f64 a b) (.complex .f64 0 13830554455654793216)).run Tryd.prog w = .ok (.complex .f64 re im) w := fun w => run_complex_mul w _ _ _ _ _ _ _ h1
      have HN : Hid (isW re (partX r) ∧ isW im (partY r)) := Lib.hid ⟨by
        have : partX r = partY (r + 1024) := hn.2.symm
        rw [this]; exact h2, by
        have : partY r = -partX (r + 1024) := by rw [hn.1]; omega
        rw [this]; exact h3⟩
      have hE : t - (k + 1) * 1024 = r := by omega
      have HE := Lib.hid hE
      clear h1 h2 h3 hn hp ha hb hE
      have o3 : FloatKind.f64.format.order a 0 = some .lt ∨ FloatKind.f64.format.order a 0 = some .eq ∨ (FloatKind.f64.format.order a 0 = some .gt ∧ FloatKind.f64.format.order b 0 = some .lt) := by
        rcases hnf with h | h | ⟨h, h'⟩
        · exact .inl (by rw [o1, compare_lt h])
        · exact .inr (.inl (by rw [o1, h]; rfl))
        · exact .inr (.inr ⟨by rw [o1, compare_gt h], by rw [o2, compare_lt h']⟩)
      clear o1 o2 hnf
      rcases o3 with o3 | o3 | ⟨o3, o4⟩
      all_goals
        go_wp2
        go_round
        case rel => exact ⟨k + 1, re, im, by omega, by go_num, rfl, by rw [HE.out]; exact HN.out.1, by rw [HE.out]; exact HN.out.2⟩
        case measure => simp [intOf]; omega
end Go.Proofs.YtfnbkmmfaaklnaaDoor

/- Layer 11: the contracts of the program's Turn, Place, Owner, Shard. -/
import Derived.Test.YtfnbkmmfaaklnaaDoorW11b
import Derived.Test.YtfnbkmmfaaklnaaDoorW06a
import Derived.Test.YtfnbkmmfaaklnaaDoorM11o
import Derived.Test.YtfnbkmmfaaklnaaDoorM01t
namespace Go.Proofs.YtfnbkmmfaaklnaaDoor
open Go.RowKit
set_option linter.unusedVariables false

/-- How many steps from one place to another. -/
def turnN (t u : Nat) : Nat := (u + 4096 - t) % 4096
theorem turnN_lt (t u : Nat) : turnN t u < 4096 := Nat.mod_lt _ (by decide)
/-- Where a name lies. -/
def stepN (s : ByteArray) : Nat := (hashA s ^^^ (hashB s / 128)) % 4096
theorem stepN_lt (s : ByteArray) : stepN s < 4096 := Nat.mod_lt _ (by decide)

set_option maxRecDepth 100000 in
theorem turn_any (t u : Nat) (ht : t < 4096) (hu : u < 4096) (w : World) :
    Calls Tryd.prog 15 #[.complex .f64 (plX t) (plY t), .complex .f64 (plX u) (plY u)] w fun e w' => e = .returned (.int .i64 (turnN t u : Nat)) ∧ w' = w := by
  have r1 := right_any t ht
  have r2 := right_any u hu
  have s1 := steps_any t ht
  have s2 := steps_any u hu
  have HE : Hid (((u : Int) - (t : Int) + 4096) % 4096 = ((turnN t u : Nat) : Int)) := Lib.hid (by unfold turnN; omega)
  generalize plX t = a at *
  generalize plY t = b at *
  generalize plX u = c at *
  generalize plY u = d at *
  generalize turnN t u = n at *
  go_enter Tryd.func15, Tryd.ntmps15
  go_wp2_with fail
  refine (r1 _).mono ?_
  rintro e w1 ⟨rfl, rfl⟩
  go_wp2_with fail
  refine (r2 _).mono ?_
  rintro e w1 ⟨rfl, rfl⟩
  go_wp2_with fail
  refine (s2 _).mono ?_
  rintro e w1 ⟨rfl, rfl⟩
  go_wp2_with fail
  refine (s1 _).mono ?_
  rintro e w1 ⟨rfl, rfl⟩
  go_wp2
  go_ret
  exact ⟨by rw [← HE.out]; rfl, rfl⟩

theorem mix_go (a b : Nat) (ha : a < 4294967296) (hb : b < 4294967296) : ∃ x : Nat, x < 4294967296 ∧ bits .xor .u32 (a : Int) ((b : Int) / 128) = (x : Int) ∧ (x : Int) % 4096 = (((a ^^^ (b / 128)) % 4096 : Nat) : Int) := by
  refine ⟨a ^^^ (b / 128), Nat.xor_lt_two_pow (n := 32) ha (by omega), ?_, by omega⟩
  rw [show (b : Int) / 128 = ((b / 128 : Nat) : Int) by omega, u32_xor_nat a (b / 128) ha (by omega)]

set_option maxRecDepth 100000 in
theorem place_any (s : ByteArray) (hs : s.size ≤ maxLen) (w : World) :
    Calls Tryd.prog 14 #[.string s] w fun e w' => e = .returned (.complex .f64 (plX (stepN s)) (plY (stepN s))) ∧ w' = w := by
  have hh := hash_any s hs
  have hp := position_any (stepN s) (stepN_lt s)
  have hA := hashA_lt s
  have hB := hashB_lt s
  obtain ⟨x, hx, hm1, hm2⟩ := mix_go _ _ hA hB
  unfold stepN at *
  generalize hashA s = a at *
  generalize hashB s = b at *
  have hlt : (a ^^^ (b / 128)) % 4096 < 4096 := Nat.mod_lt _ (by decide)
  generalize (a ^^^ (b / 128)) % 4096 = t at *
  go_enter Tryd.func14, Tryd.ntmps14
  go_wp2_with fail
  refine (hh _).mono ?_
  rintro e w1 ⟨rfl, rfl⟩
  go_wp2_with fail
  refine (hp _).mono ?_
  rintro e w1 ⟨rfl, rfl⟩
  go_wp2
  go_ret
  exact ⟨rfl, rfl⟩
end Go.Proofs.YtfnbkmmfaaklnaaDoor

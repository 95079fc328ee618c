/- Layer 11: the contracts of the library's Abs and Floor at whole numbers' words. -/
import Derived.Test.YtfnbkmmfaaklnaaDoorM11f
import Derived.Test.YtfnbkmmfaaklnaaDoorWT
import Derived.WalkArith
import Derived.WalkKit
import Derived.Lib.Hide
import Derived.Laws.Externs
namespace Go.Proofs.YtfnbkmmfaaklnaaDoor
open Go.RowKit
set_option linter.unusedVariables false

theorem bits_call (b : Nat) (w : World) : (callFunc 27 #[.float .f64 b]).run Tryd.prog w = .ok (.value (.int .u64 (b : Int))) w := by kernel_rfl
theorem from_call (n : Int) (w : World) : (callFunc 26 #[.int .u64 n]).run Tryd.prog w = .ok (.value (.float .f64 n.toNat)) w := by kernel_rfl

set_option maxRecDepth 100000 in
theorem abs_any (b c : Nat) (h : bits .andNot .u64 (b : Int) 9223372036854775808 = (c : Int)) (w : World) :
    Calls Tryd.prog 23 #[.float .f64 b] w fun e w' => e = .returned (.float .f64 c) ∧ w' = w := by
  have h1 := bits_call
  have h2 := from_call
  go_enter Tryd.func23, Tryd.ntmps23
  go_wp2
  all_goals (go_ret; exact ⟨rfl, rfl⟩)
theorem integral_eq : ∃ G : Nat → Bool → Nat → Sem Value, ∀ b, Extern.MathFloor.toIntegral "math.archFloor" .down #[.float .f64 b] = match FloatKind.f64.decode b with
    | .nan s t => G b s t
    | d => pure (.float .f64 (FloatKind.f64.encode (d.integral .down))) := ⟨_, fun b => rfl⟩
theorem floor_run {b : Nat} {s : Bool} {m : Nat} {i : Int} (h : FloatKind.f64.decode b = .number s m i) (w : World) : (callFunc 28 #[.float .f64 b]).run Tryd.prog w = .ok (.value (.float .f64 (FloatKind.f64.encode ((Ieee.Datum.number s m i).integral .down)))) w := by
  obtain ⟨G, hG⟩ := integral_eq
  rw [run_callFunc_extern (e := Extern.MathFloor.toIntegral "math.archFloor" .down) Tryd.func28 (by kernel_rfl) (by kernel_rfl) (by kernel_rfl) (by kernel_rfl), hG, h]
  rfl
theorem floor_call (n : Nat) (hn : n ≤ 1024) (w : World) : (callFunc 28 #[.float .f64 (flN (n : Int))]).run Tryd.prog w = .ok (.value (.float .f64 (flN (n : Int)))) w := by
  have h := whole_fin ⟨n, by omega⟩
  unfold wholeOk at h
  simp only at h
  split at h
  · next s m i hd =>
    rw [floor_run hd, eq_of_beq h]
  · cases h
set_option maxRecDepth 100000 in
theorem floor_any (n : Nat) (hn : n ≤ 1024) (w : World) :
    Calls Tryd.prog 24 #[.float .f64 (flN (n : Int))] w fun e w' => e = .returned (.float .f64 (flN (n : Int))) ∧ w' = w := by
  have h1 := floor_call n hn
  generalize flN (n : Int) = b at *
  go_enter Tryd.func24, Tryd.ntmps24
  go_wp2
  all_goals (go_ret; exact ⟨rfl, rfl⟩)
end Go.Proofs.YtfnbkmmfaaklnaaDoor

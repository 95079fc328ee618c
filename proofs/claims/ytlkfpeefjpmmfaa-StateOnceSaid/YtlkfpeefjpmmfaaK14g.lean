/- Layer 14's laws, whatever the program: a map whose keys are three numbers, as StateOnce keeps one. -/
import Derived.Test.YtlkfpeefjpmmfaaM14c
import Derived.Test.YtlkfpeefjpmmfaaJ48
import Derived.DeepKeys4
import Derived.Maps.OwnSet
namespace Go.Proofs.Ytlkfpeefjpmmfaa
open Go.Maps (Keyed)
set_option linter.unusedVariables false

theorem laid14 : laidOutB Try.prog = true := by kernel_rfl
theorem un3 : Try.prog.underlying 46 = some (.array 3 3) := by kernel_rfl
theorem unI : Try.prog.underlying 3 = some (.int .i64) := by kernel_rfl
theorem c3 : Try.prog.cellsOf 46 = 3 := by kernel_rfl
theorem c1I : Try.prog.cellsOf 3 = 1 := by kernel_rfl
theorem kt3 : Try.prog.keyType 46 = true := by kernel_rfl
theorem unM3 : Try.prog.underlying 45 = some (.map 46 4) := by kernel_rfl
theorem k3_keyed : Keyed Try.prog 46 := Keyed.of_law (deep_law_laid laid14 (m := 2) (by omega) (of_decide_eq_true (by kernel_rfl)) (by kernel_rfl) (by rw [un3]))
/-- Three numbers as a key. -/
def key3 (x : Int × Int × Int) : Value := .agg #[.int .i64 x.1, .int .i64 x.2.1, .int .i64 x.2.2]
def Fit3 (x : Int × Int × Int) : Prop := (Lit.int .i64 x.1).wf = true ∧ (Lit.int .i64 x.2.1).wf = true ∧ (Lit.int .i64 x.2.2).wf = true
theorem key3_lit {x : Int × Int × Int} (h : Fit3 x) : ∃ kl, keyOf Try.prog 46 (key3 x) = some kl := by
  obtain ⟨h1, h2, h3⟩ := h
  obtain ⟨n, hn⟩ : ∃ n, Try.prog.types.size = n + 1 := ⟨Try.prog.types.size - 1, by have : 0 < Try.prog.types.size := of_decide_eq_true (by kernel_rfl); omega⟩
  refine ⟨.string (keyBytes [.int .i64 x.1, .int .i64 x.2.1, .int .i64 x.2.2]), ?_⟩
  unfold keyOf
  have hf : (key3 x).formed Try.prog 46 = true := by unfold key3 Value.formed; rw [un3, c3]; rfl
  rw [un3]
  simp only [kt3, hf, Bool.and_self, if_true, hn]
  have hc : (key3 x).cells.toList = [.int .i64 x.1, .int .i64 x.2.1, .int .i64 x.2.2] := rfl
  have hl : ∀ a : Int, (Lit.int .i64 a).wf = true → Try.prog.keyLits (n + 1) 3 [.int .i64 a] = some [.int .i64 a] := fun a ha => by
    unfold Program.keyLits; rw [unI]; simp [ha]
  rw [hc]
  unfold Program.keyLits
  rw [un3]
  simp only [c3, c1I, List.length_cons, List.length_nil]
  rw [if_pos trivial, show List.range 3 = [0, 1, 2] from rfl]
  simp [hl _ h1, hl _ h2, hl _ h3]
theorem key3_inj {x y : Int × Int × Int} (h : key3 x = key3 y) : x = y := by
  obtain ⟨a, b, c⟩ := x
  obtain ⟨a', b', c'⟩ := y
  unfold key3 at h
  simp only [Value.agg.injEq] at h
  simpa using h
/-- The map holds what a list names. -/
def Holds3 {H : Type} (D : DataW H) (s : List (Int × Int × Int)) : Prop := ∀ x kl, keyOf Try.prog 46 (key3 x) = some kl → D.atKey kl (.lit (.bool false)) = .lit (.bool (decide (x ∈ s)))
theorem Holds3.nil {H : Type} : Holds3 (.map [] : DataW H) [] := fun x kl h => by
  rw [WideAt.atKey_none _ (by simp)]
  simp
theorem Holds3.put {H : Type} {D : DataW H} {s : List (Int × Int × Int)} (h : Holds3 D s) (hm : Maps.IsMap D) {x : Int × Int × Int} {kl : Lit} (hk : keyOf Try.prog 46 (key3 x) = some kl) : Holds3 (D.put kl (.lit (.bool true))) (x :: s) := fun y kl' hk' => by
  by_cases e : y = x
  · subst e
    obtain rfl : kl = kl' := Option.some.inj (hk.symm.trans hk')
    rw [Maps.atKey_put_same hm (k3_keyed.key hk)]
    simp
  · have hne : kl' ≠ kl := fun e2 => by
      subst e2
      exact e (key3_inj (k3_keyed.inj hk' hk))
    have he : (y ∈ x :: s) = (y ∈ s) := by simp [e]
    exact (Maps.atKey_put_other hne _ _).trans ((h y kl' hk').trans (by simp only [he]))
theorem plainBool_inv {H : Type} {v : Value} {b : Bool} {ps : List MemPlace} (h : plainElem (H := H) Try.prog 4 v = some (.lit (.bool b), ps)) : v = .bool b := by
  have hu : Try.prog.underlying 4 = some .bool := by kernel_rfl
  unfold plainElem at h
  rw [hu] at h
  cases v <;> simp at h
  rw [h.1]
theorem look3 {H : Type} {w : World} {b n : Nat} {D : DataW H} {s : List (Int × Int × Int)} (h : w.ownsMap Try.prog 46 (plainElem Try.prog 4) b n D) (hs : Holds3 D s) {x : Int × Int × Int} (hx : Fit3 x) : (Instr.lookup 45 (.map (some b)) (key3 x) false).run Try.prog w = .ok (.bool (decide (x ∈ s))) w := by
  obtain ⟨kl, hk⟩ := key3_lit hx
  have hu : Try.prog.underlying 4 = some .bool := by kernel_rfl
  obtain ⟨v, ps, hr, hv⟩ := h.lookup k3_keyed unM3 (z := .bool false) (by kernel_rfl) (plainElem_bool hu false) hk
  rw [hs x kl hk] at hv
  rw [hr, plainBool_inv hv]
theorem store3 {H : Type} {w : World} {b n : Nat} {D : DataW H} {s : List (Int × Int × Int)} (h : w.ownsMap Try.prog 46 (plainElem Try.prog 4) b n D) (hs : Holds3 D s) (hn : n < maxLen) {x : Int × Int × Int} (hx : Fit3 x) :
    ∃ (w' : World) (D' : DataW H), (Instr.mapUpdate 45 (.map (some b)) (key3 x) (.bool true)).run Try.prog w = .ok () w' ∧ w'.ownsMap Try.prog 46 (plainElem Try.prog 4) b (n + 1) D' ∧ Holds3 D' (x :: s) ∧ w.grownBy w' (some b) := by
  obtain ⟨kl, hk⟩ := key3_lit hx
  have hu : Try.prog.underlying 4 = some .bool := by kernel_rfl
  obtain ⟨w', h1, h2, h3⟩ := h.update k3_keyed unM3 hn hk (plainElem_bool hu true)
  exact ⟨w', _, h1, h2, hs.put h.isMap hk, h3⟩
end Go.Proofs.Ytlkfpeefjpmmfaa

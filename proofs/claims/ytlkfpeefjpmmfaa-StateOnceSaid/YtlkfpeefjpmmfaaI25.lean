/- A region that draws its order and stores, at its end, into cells that it loads: what the loads want of the world is shown behind each operation that may come ahead of one of them, and behind no other ('late': an operation that waits for each load itself). -/
import Derived.Test.YtlkfpeefjpmmfaaW00b
import Derived.Deep.RegionHeld3
namespace Go.Proofs.Ytlkfpeefjpmmfaa
open Go.RowKit
set_option linter.unusedVariables false

section
variable {P : Program} {ops : Array Oper} {Q : Exit → Act → World → Prop} {S : World → Prop} {late : List Nat}

/-- The rest of a region: 'n' operations at most are to come; those that are not late leave S as it was. -/
def Rest (P : Program) (ops : Array Oper) (Q : Exit → Act → World → Prop) (S : World → Prop) (late : List Nat) : Nat → Array Bool → Act → World → Prop
  | 0, d, a, w => Region.ready .any ops d = [] ∧ Q .normal a w
  | n + 1, d, a, w => (Region.ready .any ops d = [] → Q .normal a w) ∧
      ∀ i ∈ Region.ready .any ops d, wpOp P ops Q i (fun a' w' => (late.contains i = false → S w → S w') ∧ Rest P ops Q S late n (d.setIfInBounds i true) a' w') a w
theorem Rest.any : ∀ {n : Nat} {d : Array Bool} {a : Act} {w : World}, Rest P ops Q S late n d a w → wpAny P .any ops Q n d a w
  | 0, _, _, _, h => h
  | _ + 1, _, _, _, ⟨h0, h1⟩ => ⟨h0, fun i hi => wpOp_mono (fun _ _ h => h.2.any) (h1 i hi)⟩
theorem rest_region {id : Nat} {a : Act} {w : World} (hm : P.follows .mixedOrders = true) (hS : S w.drew)
    (h : S w.drew → Rest P ops Q S late ops.size (Array.replicate ops.size false) a w.drew) : (Code.region id ops true).wp P Q a w := wp_region_any hm (h hS).any

/-- Those that are late wait for an operation. -/
def latesWait (ops : Array Oper) (late : List Nat) (i : Nat) : Bool := late.all fun j => match ops[j]? with | some o => o.after.any fun e => Region.binds .any e && e.on == i | none => false
theorem late_not_ready {i j : Nat} {d : Array Bool} (h : latesWait ops late i = true) (hi : d.getD i true = false) (hj : j ∈ Region.ready .any ops d) : late.contains j = false := by
  cases hc : late.contains j with
  | false => rfl
  | true =>
    exfalso
    obtain ⟨_, o, ho, ha⟩ := mem_ready.1 hj
    have hl := List.all_eq_true.1 h j (List.contains_iff_mem.1 hc)
    simp only [ho] at hl
    obtain ⟨e, he, hb⟩ := Array.any_eq_true'.1 hl
    rw [Bool.and_eq_true, beq_iff_eq] at hb
    have h2 := ha e he hb.1
    rw [hb.2] at h2
    rcases Nat.lt_or_ge i d.size with hs | hs
    · simp [hs] at hi h2
      rw [hi] at h2
      cases h2
    · simp [Array.getElem?_eq_none hs] at hi

/-- What yields one value in each world of T may be taken now, where T stays as long as it has not come up. -/
theorem Rest.first {i : Nat} {o : Oper} {v : Value} {T : World → Prop} (ho : ops[i]? = some o) (hsel : Region.noSelect ops = true)
    (hT : ∀ (d : Array Bool) (j : Nat) (w w' : World), d.getD i true = false → j ∈ Region.ready .any ops d → T w → (late.contains j = false → S w → S w') → T w')
    (hQ : ∀ c a w, Q (.panic c) (a.put o.dst v) w → Q (.panic c) a w) : ∀ (n : Nat) (d : Array Bool) (a : Act) (w : World),
      (∀ j oj, ops[j]? = some oj → j ≠ i → d.getD j true = false → (∀ e ∈ oj.after, Region.binds .any e = true → e.on ≠ i) → o.apart ops oj = true) →
      i ∈ Region.ready .any ops d → YieldsIf P ops T o v a → T w → Rest P ops Q S late n (d.setIfInBounds i true) (a.put o.dst v) w → Rest P ops Q S late (n + 1) d a w := by
  intro n
  induction n with
  | zero =>
    intro d a w _ hr hy hS H
    refine ⟨fun h => by simp [h] at hr, fun j hj => ?_⟩
    by_cases e : j = i
    · rw [e]
      exact hy.wpOp ho hS ⟨fun _ h => h, H⟩
    · have := ready_mono hj e
      rw [H.1] at this
      cases this
  | succ n ih =>
    intro d a w hf hr hy hS H
    have hun := (mem_ready.1 hr).1
    refine ⟨fun h => by simp [h] at hr, fun j hj => ?_⟩
    by_cases e : j = i
    · rw [e]
      exact hy.wpOp ho hS ⟨fun _ h => h, H⟩
    · obtain ⟨hju, oj, hoj, ha⟩ := mem_ready.1 hj
      have hno : ∀ x ∈ oj.after, Region.binds .any x = true → x.on ≠ i := by
        intro x hx hb hxi
        have h2 := ha x hx hb
        rw [hxi] at h2
        rcases Nat.lt_or_ge i d.size with hs | hs
        · simp [hs] at hun h2
          rw [hun] at h2
          cases h2
        · simp [Array.getElem?_eq_none hs] at hun
      have hstep := wpOp_putIf hoj (hf j oj hoj e hju hno) (fun cs b => Region.noSelect_spec hsel i o cs b ho) (fun cs b => Region.noSelect_spec hsel j oj cs b hoj) hQ hy (H.2 j (ready_mono hj e))
      refine wpOp_mono (fun a' w' h3 => ?_) hstep
      refine ⟨h3.2.1, ih _ a' w' (fun k ok hk hki hku hkn => hf k ok hk hki ?_ hkn) (ready_mono hr (fun x => e x.symm)) h3.1 (hT d j w w' hun hj hS h3.2.1) ?_⟩
      · by_cases hjk : j = k
        · rw [← hjk]; exact hju
        · rwa [getD_set_ne true hjk] at hku
      · rw [Array.setIfInBounds_comm _ _ e]
        exact h3.2.2
theorem Rest.take {i : Nat} {o : Oper} {v : Value} {n : Nat} {d : Array Bool} {a : Act} {w : World} (ho : ops[i]? = some o) (hsel : Region.noSelect ops = true) (hl : latesWait ops late i = true) (hf : Region.free .any ops d i = true) (hr : (Region.ready .any ops d).contains i = true)
    (hQ : ∀ c a w, Q (.panic c) (a.put o.dst v) w → Q (.panic c) a w) (hy : YieldsIf P ops S o v a) (hS : S w) (h : Rest P ops Q S late n (d.setIfInBounds i true) (a.put o.dst v) w) : Rest P ops Q S late (n + 1) d a w :=
  Rest.first ho hsel (fun d j w w' hun hj hs hk => hk (late_not_ready hl hun hj) hs) hQ n d a w (Region.free_spec ho hf) (List.contains_iff_mem.1 hr) hy hS h
/-- .. whatever the world. -/
theorem Rest.takeA {i : Nat} {o : Oper} {v : Value} {n : Nat} {d : Array Bool} {a : Act} {w : World} (ho : ops[i]? = some o) (hsel : Region.noSelect ops = true) (hf : Region.free .any ops d i = true) (hr : (Region.ready .any ops d).contains i = true)
    (hQ : ∀ c a w, Q (.panic c) (a.put o.dst v) w → Q (.panic c) a w) (hy : YieldsIf P ops (fun _ => True) o v a) (h : Rest P ops Q S late n (d.setIfInBounds i true) (a.put o.dst v) w) : Rest P ops Q S late (n + 1) d a w :=
  Rest.first (T := fun _ => True) ho hsel (fun _ _ _ _ _ _ _ _ => trivial) hQ n d a w (Region.free_spec ho hf) (List.contains_iff_mem.1 hr) hy trivial h
/-- The one operation that may come up now is carried out. -/
theorem Rest.one {i : Nat} {o : Oper} {n : Nat} {d : Array Bool} {a : Act} {w : World} (hr : Region.ready .any ops d = [i]) (ho : ops[i]? = some o) (hw : Region.wanted o (yielded ops a.tmps) = true)
    (h : ∀ K : Act → World → Prop, Shut (∀ a w', (late.contains i = false → S w → S w') → ((late.contains i = false → S w → S w') → Rest P ops Q S late n (d.setIfInBounds i true) a w') → K a w') → Oper.wp P o a w K Q) : Rest P ops Q S late (n + 1) d a w := by
  refine ⟨fun h0 => by simp [h0] at hr, fun j hj => ?_⟩
  rw [hr, List.mem_singleton] at hj
  rw [hj]
  exact wpOp_step ho (fun K hK => by rw [if_pos hw]; exact h K (fun a w hs hk => hK a w ⟨hs, hk hs⟩))
theorem Rest.done {n : Nat} {d : Array Bool} {a : Act} {w : World} (hr : Region.ready .any ops d = []) (h : Q .normal a w) : Rest P ops Q S late n d a w := by
  cases n with
  | zero => exact ⟨hr, h⟩
  | succ n => exact ⟨fun _ => h, fun i hi => by simp [hr] at hi⟩
end
/-- An append of rows, carried out alone. -/
theorem step_app1 (w : World) {o : Oper} {a : Act} {K : Act → World → Prop} {Q : Exit → Act → World → Prop} (hgd : o.guard = none) (sl x : Operand) {T E : TypeId}
    (ho : o.op = .call { callee := .builtin .append, args := #[sl, x], argTypes := #[T, T] }) {i : TypeInfo} {z : Value} {sz bytes : Nat} (ht : Try.prog.underlying T = some (.slice E)) (hi : Try.prog.info? E = some i) (hz : i.zero = some z) (hsize : i.size = sz) (hby : i.bytes = bytes) (hzs : z.cells.size = sz) (hsz : 0 < sz)
    {v : Value} {n : Nat} {xs : List Value} (hs : a.eval sl = v) (hown : w.ownsRow 0 E sz v n xs) {xv : Value} {m : Nat} {news : List Value} (hx : a.eval x = xv) (hsrc : SrcRow w xv m sz news) (hb : (n + m) * bytes ≤ 140737488355328) (h63 : n + m ≤ maxLen)
    (hK : ∀ b c w', w'.ownsRow 0 E sz (.slice b (n + m) c) (n + m) (xs ++ news) → w.grownBy w' v.ownBlock → (∀ k, (Value.slice b (n + m) c).ownBlock = some k → v.ownBlock = some k ∨ w.heap.size ≤ k) → K (a.put o.dst (.slice b (n + m) c)) w') :
    Oper.wp Try.prog o a w K Q := by
  have h := step_app w (ops := #[]) (Q := Q) (Z := True) hgd sl x ho ht hi hz hsize hby hzs hsz hs hown hx hsrc hb h63 hK
  have hw : Region.wanted o (yielded #[] a.tmps) = true := by simp [Region.wanted, hgd]
  rwa [if_pos hw] at h
end Go.Proofs.Ytlkfpeefjpmmfaa

/- Layer 14: contracts of the reference's ended, last, Status. -/
import Derived.Test.YtlkfpeefjpmmfaaM14
import Derived.Test.YtlkfpeefjpmmfaaJ15
namespace Go.Proofs.Ytlkfpeefjpmmfaa
open Go.RowKit
set_option linter.unusedVariables false

theorem ended_take {l : List EvS} {i : Nat} (h : i < l.length) (r a b : Int) : endedH (l.take (i + 1)) r a b = (endedH (l.take i) r a b || (decide (l[i].ref = r) && (decide (l[i].kind = a) || decide (l[i].kind = b)))) := by
  rw [List.take_succ_eq_append_getElem h, ended_snoc]
theorem ended_hit {l : List EvS} {i : Nat} (h : i < l.length) {r a b : Int} (hr : l[i].ref = r) (hk : l[i].kind = a ∨ l[i].kind = b) : endedH l r a b = true := by
  unfold endedH
  rw [List.any_eq_true]
  refine ⟨l[i], List.getElem_mem h, ?_⟩
  rw [hr]
  rcases hk with hk | hk <;> simp [hk]

set_option maxHeartbeats 1000000 in
set_option maxRecDepth 100000 in
theorem rended_any {w : World} {v : Value} {l : List EvS} (h : ReadE w v l) (r a b : Int) :
    Calls Try.prog 50 #[v, .int .i64 r, .int .i64 a, .int .i64 b] w fun e w' => e = .returned (.bool (endedH l r a b)) ∧ w' = w := by
  obtain ⟨va, vc, rfl⟩ := h.slice
  have hml : l.length ≤ 9223372036854775807 := by have := h.1; unfold maxLen at this; omega
  have H := Lib.hid h
  clear h
  have HIT := fun i (hi : i < l.length) => Lib.hid (ended_hit (r := r) (a := a) (b := b) hi)
  go_enter Try.func50, Try.ntmps50
  go_wp2
  go_loop [9] (fun iv => ∃ i : Nat, i ≤ l.length ∧ iv = .int .i64 (i : Int) ∧ Hid (endedH (l.take i) r a b = false)) (fun iv => l.length - (intOf iv).toNat)
  case atStart => exact ⟨0, Nat.zero_le _, rfl, rfl⟩
  case round =>
    obtain ⟨i, hi, rfl, HA⟩ := hrel
    by_cases hlt : i < l.length
    · obtain ⟨b', o, rfl, q0, q1, q2, q3, q4, q5, q6, q7, -⟩ := H.out.at hlt
      have HT := Lib.hid (ended_take hlt r a b)
      have HI := HIT i hlt
      clear HIT
      have hmes : l.length - (intOf (.int .i64 ((i : Int) + 1))).toNat < l.length - (intOf (.int .i64 (i : Int))).toNat := by simp [intOf]; omega
      generalize l[i] = x at *
      by_cases h1 : x.ref = r
      · by_cases h2 : x.kind = a
        · have HF := Lib.hid (HI.out h1 (.inl h2))
          have g1 : (x.ref == r) = true := by rw [beq_iff_eq]; exact h1
          have g2 : (x.kind == a) = true := by rw [beq_iff_eq]; exact h2
          clear h1 h2
          go_wp2
          go_ret
          exact ⟨by rw [HF.out]; rfl, rfl⟩
        · by_cases h3 : x.kind = b
          · have HF := Lib.hid (HI.out h1 (.inr h3))
            have g1 : (x.ref == r) = true := by rw [beq_iff_eq]; exact h1
            have g2 : (x.kind == a) = false := by rw [beq_eq_false_iff_ne]; exact h2
            have g3 : (x.kind == b) = true := by rw [beq_iff_eq]; exact h3
            clear h1 h2 h3
            go_wp2
            go_ret
            exact ⟨by rw [HF.out]; rfl, rfl⟩
          · have HA2 : Hid (endedH (l.take (i + 1)) r a b = false) := by show _ = _; rw [HT.out, HA.out]; simp [h2, h3]
            have g1 : (x.ref == r) = true := by rw [beq_iff_eq]; exact h1
            have g2 : (x.kind == a) = false := by rw [beq_eq_false_iff_ne]; exact h2
            have g3 : (x.kind == b) = false := by rw [beq_eq_false_iff_ne]; exact h3
            clear h1 h2 h3
            go_wp2
            go_round
            case rel => exact ⟨i + 1, by omega, by go_num, HA2.out⟩
            case measure => exact hmes
      · have HA2 : Hid (endedH (l.take (i + 1)) r a b = false) := by show _ = _; rw [HT.out, HA.out]; simp [h1]
        have g1 : (x.ref == r) = false := by rw [beq_eq_false_iff_ne]; exact h1
        clear h1
        go_wp2
        go_round
        case rel => exact ⟨i + 1, by omega, by go_num, HA2.out⟩
        case measure => exact hmes
    · obtain rfl : i = l.length := by omega
      have HF : Hid (endedH l r a b = false) := by have := HA.out; rwa [List.take_length] at this
      go_wp2
      go_ret
      exact ⟨by rw [HF.out]; rfl, rfl⟩

theorem last_take {l : List EvS} {i : Nat} (h : i < l.length) (k : Int) : lastH (l.take (i + 1)) k = if l[i].kind = k then i + 1 else lastH (l.take i) k := by
  rw [List.take_succ_eq_append_getElem h, last_snoc, List.length_take, Nat.min_eq_left (Nat.le_of_lt h)]
set_option maxHeartbeats 1000000 in
set_option maxRecDepth 100000 in
theorem rlast_any {w : World} {v : Value} {l : List EvS} (h : ReadE w v l) (k : Int) :
    Calls Try.prog 29 #[v, .int .i64 k] w fun e w' => e = .returned (.int .i64 (lastH l k : Nat)) ∧ w' = w := by
  obtain ⟨va, vc, rfl⟩ := h.slice
  have hml : l.length ≤ 9223372036854775807 := by have := h.1; unfold maxLen at this; omega
  have H := Lib.hid h
  clear h
  go_enter Try.func29, Try.ntmps29
  go_wp2
  go_loop [5] (fun iv => ∃ i : Nat, i ≤ l.length ∧ iv = .int .i64 ((i : Int) - 1) ∧ Hid (lastH l k = lastH (l.take i) k)) (fun iv => (intOf iv + 1).toNat)
  case atStart => exact ⟨l.length, Nat.le_refl _, rfl, by show _ = _; rw [List.take_length]⟩
  case round =>
    obtain ⟨i, hi, rfl, HA⟩ := hrel
    cases i with
    | zero =>
      have HF : Hid (lastH l k = 0) := HA.out
      go_wp2
      go_ret
      exact ⟨by rw [HF.out]; rfl, rfl⟩
    | succ i =>
      obtain ⟨b', o, rfl, q0, q1, q2, q3, q4, q5, q6, q7, -⟩ := H.out.at (i := i) (by omega)
      have hlt : i < l.length := by omega
      have HT := Lib.hid (last_take hlt k)
      have e1 : (((i + 1 : Nat) : Int) - 1) = (i : Int) := by omega
      have hmes : (intOf (.int .i64 ((i : Int) - 1)) + 1).toNat < (intOf (.int .i64 (((i + 1 : Nat) : Int) - 1)) + 1).toNat := by simp [intOf]
      rw [e1] at hmes ⊢
      generalize l[i] = x at *
      by_cases h1 : x.kind = k
      · have HF : Hid (lastH l k = i + 1) := by show _ = _; rw [HA.out, HT.out, if_pos h1]
        have g1 : (x.kind == k) = true := by rw [beq_iff_eq]; exact h1
        clear h1
        go_wp2
        go_ret
        exact ⟨by rw [HF.out]; rfl, rfl⟩
      · have HA2 : Hid (lastH l k = lastH (l.take i) k) := by show _ = _; rw [HA.out, HT.out, if_neg h1]
        have g1 : (x.kind == k) = false := by rw [beq_eq_false_iff_ne]; exact h1
        clear h1
        go_wp2
        go_round
        case rel => exact ⟨i, by omega, rfl, HA2.out⟩
        case measure => exact hmes

theorem status_some {l : List EvS} {n : Nat} (h : l.length = n + 1) : statusH l = statusK (l[n]'(by omega)).kind := by
  unfold statusH
  have : l.getLast? = some (l[n]'(by omega)) := by
    rw [List.getLast?_eq_getElem?]
    have e : l.length - 1 = n := by omega
    rw [e]
    exact List.getElem?_eq_getElem _
  rw [this]
set_option maxHeartbeats 1000000 in
set_option maxRecDepth 100000 in
theorem rstatus_any {w : World} {v : Value} {l : List EvS} (h : ReadE w v l) :
    Calls Try.prog 21 #[v] w fun e w' => e = .returned (.int .i64 (statusH l : Nat)) ∧ w' = w := by
  obtain ⟨va, vc, rfl⟩ := h.slice
  have hml : l.length ≤ 9223372036854775807 := by have := h.1; unfold maxLen at this; omega
  obtain ⟨n, hn⟩ : ∃ n, l.length = n := ⟨_, rfl⟩
  cases n with
  | zero =>
    have hl : l = [] := List.eq_nil_of_length_eq_zero hn
    subst hl
    clear h
    go_enter Try.func21, Try.ntmps21
    go_wp2
    go_ret
    exact ⟨rfl, rfl⟩
  | succ n =>
    obtain ⟨b', o, rfl, q0, q1, q2, q3, q4, q5, q6, q7, -⟩ := h.at (i := n) (by omega)
    have HS := Lib.hid (status_some hn)
    have hg : l[n]? = some (l[n]'(by omega)) := List.getElem?_eq_getElem _
    rw [hn] at hml ⊢
    generalize statusH l = ST at *
    generalize (l[n]'(by omega)) = x at *
    have e1 : (((n + 1 : Nat) : Int) == 0) = false := by rw [beq_eq_false_iff_ne]; omega
    have e2 : IntKind.i64.wrap (((n + 1 : Nat) : Int) - 1) = (n : Int) := by rw [IntWalk.i64_in _ ⟨by omega, by omega⟩]; omega
    clear h hg hn
    go_enter Try.func21, Try.ntmps21
    by_cases h15 : x.kind = 15
    · have HF : Hid (ST = 1) := by show _ = _; rw [HS.out, h15]; rfl
      have g1 : (x.kind == 15) = true := by rw [beq_iff_eq]; exact h15
      clear h15
      go_wp2
      go_ret
      exact ⟨by rw [HF.out]; rfl, rfl⟩
    · have g15 : (x.kind == 15) = false := by rw [beq_eq_false_iff_ne]; exact h15
      by_cases h16 : x.kind = 16
      · have HF : Hid (ST = 2) := by show _ = _; rw [HS.out, h16]; rfl
        have g1 : (x.kind == 16) = true := by rw [beq_iff_eq]; exact h16
        clear h15 h16
        go_wp2
        go_ret
        exact ⟨by rw [HF.out]; rfl, rfl⟩
      · have g16 : (x.kind == 16) = false := by rw [beq_eq_false_iff_ne]; exact h16
        by_cases h17 : x.kind = 17
        · have HF : Hid (ST = 3) := by show _ = _; rw [HS.out, h17]; rfl
          have g1 : (x.kind == 17) = true := by rw [beq_iff_eq]; exact h17
          clear h15 h16 h17
          go_wp2
          go_ret
          exact ⟨by rw [HF.out]; rfl, rfl⟩
        · have g17 : (x.kind == 17) = false := by rw [beq_eq_false_iff_ne]; exact h17
          by_cases h18 : x.kind = 18
          · have HF : Hid (ST = 4) := by show _ = _; rw [HS.out, h18]; rfl
            have g1 : (x.kind == 18) = true := by rw [beq_iff_eq]; exact h18
            clear h15 h16 h17 h18
            go_wp2
            go_ret
            exact ⟨by rw [HF.out]; rfl, rfl⟩
          · have HF : Hid (ST = 0) := by show _ = _; rw [HS.out]; unfold statusK; simp [h15, h16, h17, h18]
            have g18 : (x.kind == 18) = false := by rw [beq_eq_false_iff_ne]; exact h18
            clear h15 h16 h17 h18
            go_wp2
            go_ret
            exact ⟨by rw [HF.out]; rfl, rfl⟩
end Go.Proofs.Ytlkfpeefjpmmfaa

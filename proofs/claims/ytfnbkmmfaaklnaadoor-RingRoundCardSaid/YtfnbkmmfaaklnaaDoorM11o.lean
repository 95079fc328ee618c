/- Layer 11, plain facts: whose is a key: the host of the fewest steps, of several the least name. -/
import Derived.Test.YtfnbkmmfaaklnaaDoorM05
namespace Go.Proofs.YtfnbkmmfaaklnaaDoor
set_option linter.unusedVariables false

/-- One host more (d: how many steps to it). -/
def stepO (d : ByteArray → Nat) (b : ByteArray × Nat) (h : ByteArray) : ByteArray × Nat := if d h < b.2 ∨ (d h = b.2 ∧ befB h b.1 = true) then (h, d h) else b
def foldO (d : ByteArray → Nat) (l : List ByteArray) : ByteArray × Nat := l.foldl (stepO d) (⟨#[]⟩, 4096)
def ownO (d : ByteArray → Nat) (l : List ByteArray) : ByteArray := (foldO d l).1
def leO (d : ByteArray → Nat) (a b : ByteArray) : Prop := d a < d b ∨ (d a = d b ∧ befB b a = false)
theorem leO_anti {d : ByteArray → Nat} {a b : ByteArray} (h : leO d a b) (k : leO d b a) : a = b := by
  rcases h with h | ⟨h, h2⟩
  · rcases k with k | ⟨k, _⟩ <;> omega
  · rcases k with k | ⟨_, k2⟩
    · omega
    · exact Classical.byContradiction fun e => by rw [befB_total e k2] at h2; cases h2
theorem leO_trans {d : ByteArray → Nat} {a b c : ByteArray} (h : leO d a b) (k : leO d b c) : leO d a c := by
  rcases h with h | ⟨h, h2⟩
  · rcases k with k | ⟨k, _⟩
    · exact .inl (by omega)
    · exact .inl (by omega)
  · rcases k with k | ⟨k, k2⟩
    · exact .inl (by omega)
    · refine .inr ⟨by omega, ?_⟩
      cases hc : befB c a with
      | false => rfl
      | true =>
        by_cases e : a = b
        · subst e; rw [hc] at k2; cases k2
        · have h3 := befB_total (a := b) (b := a) (fun e2 => e e2.symm) h2
          rw [befB_trans hc h3] at k2
          cases k2
theorem fold_next {d : ByteArray → Nat} {l : List ByteArray} {i : Nat} (h : i < l.length) : foldO d (l.take (i + 1)) = stepO d (foldO d (l.take i)) l[i] := by
  unfold foldO
  rw [List.take_succ_eq_append_getElem h, List.foldl_append]
  rfl
theorem fold_least_n {d : ByteArray → Nat} (n : Nat) : ∀ (l : List ByteArray), l.length = n → (∀ h ∈ l, d h < 4096) → l ≠ [] → (foldO d l).1 ∈ l ∧ (foldO d l).2 = d (foldO d l).1 ∧ ∀ h ∈ l, leO d (foldO d l).1 h := by
  induction n with
  | zero => intro l hn _ h; exact absurd (List.eq_nil_of_length_eq_zero hn) h
  | succ n ih0 =>
    intro l hn hl hne
    obtain ⟨l, x, rfl⟩ : ∃ l' x, l = l' ++ [x] := ⟨l.dropLast, l.getLast hne, (List.dropLast_concat_getLast hne).symm⟩
    have ih := ih0 l (by simpa using hn)
    clear hne
    have e : foldO d (l ++ [x]) = stepO d (foldO d l) x := by unfold foldO; rw [List.foldl_append]; rfl
    have hx := hl x (by simp)
    rw [e]
    by_cases h0 : l = []
    · subst h0
      have : stepO d (foldO d []) x = (x, d x) := if_pos (.inl hx)
      rw [this]
      exact ⟨by simp, rfl, fun h hh => by rw [List.nil_append, List.mem_singleton] at hh; subst hh; exact .inr ⟨rfl, befB_irrefl _⟩⟩
    · obtain ⟨h1, h2, h3⟩ := ih (fun h hh => hl h (by simp [hh])) h0
      unfold stepO
      split
      · next hc =>
        have hle : leO d x (foldO d l).1 := by
          rcases hc with hc | ⟨hc, hb⟩
          · exact .inl (by omega)
          · exact .inr ⟨by omega, befB_asymm hb⟩
        refine ⟨by simp, rfl, fun h hh => ?_⟩
        rcases List.mem_append.1 hh with hh | hh
        · exact leO_trans hle (h3 h hh)
        · rw [List.mem_singleton.1 hh]; exact .inr ⟨rfl, befB_irrefl _⟩
      · next hc =>
        refine ⟨by simp [h1], h2, fun h hh => ?_⟩
        rcases List.mem_append.1 hh with hh | hh
        · exact h3 h hh
        · rw [List.mem_singleton.1 hh]
          by_cases e2 : d (foldO d l).1 < d x
          · exact .inl e2
          · refine .inr ⟨by omega, ?_⟩
            cases hb : befB x (foldO d l).1 with
            | false => rfl
            | true => exact absurd (.inr ⟨by omega, hb⟩) hc
theorem fold_least {d : ByteArray → Nat} (l : List ByteArray) (hl : ∀ h ∈ l, d h < 4096) (h0 : l ≠ []) : (foldO d l).1 ∈ l ∧ (foldO d l).2 = d (foldO d l).1 ∧ ∀ h ∈ l, leO d (foldO d l).1 h := fold_least_n l.length l rfl hl h0
/-- In whichever order, and however often, hosts are told. -/
theorem own_set {d : ByteArray → Nat} {l m : List ByteArray} (hl : ∀ h ∈ l, d h < 4096) (h : ∀ x, x ∈ l ↔ x ∈ m) : ownO d l = ownO d m := by
  by_cases h0 : l = []
  · subst h0
    have : m = [] := List.eq_nil_iff_forall_not_mem.2 fun x hx => by simpa using (h x).2 hx
    rw [this]
  · have h1 : m ≠ [] := fun e => h0 (List.eq_nil_iff_forall_not_mem.2 fun x hx => by have := (h x).1 hx; rw [e] at this; simp at this)
    obtain ⟨a1, _, a3⟩ := fold_least l hl h0
    obtain ⟨b1, _, b3⟩ := fold_least m (fun x hx => hl x ((h x).2 hx)) h1
    exact leO_anti (a3 _ ((h _).2 b1)) (b3 _ ((h _).1 a1))
/-- With one host more. -/
theorem own_more {d : ByteArray → Nat} {l : List ByteArray} {x : ByteArray} (hl : ∀ h ∈ l, d h < 4096) (hx : d x < 4096) : ownO d (l ++ [x]) = ownO d l ∨ ownO d (l ++ [x]) = x := by
  obtain ⟨a1, _, a3⟩ := fold_least (l ++ [x]) (fun h hh => by rcases List.mem_append.1 hh with hh | hh; exact hl h hh; rw [List.mem_singleton.1 hh]; exact hx) (by simp)
  rcases List.mem_append.1 a1 with h | h
  · left
    have h0 : l ≠ [] := fun e => by rw [e] at h; simp at h
    obtain ⟨b1, _, b3⟩ := fold_least l hl h0
    exact leO_anti (a3 _ (List.mem_append_left _ b1)) (b3 _ h)
  · exact .inr (List.mem_singleton.1 h)
theorem own_in {d : ByteArray → Nat} {l : List ByteArray} (hl : ∀ h ∈ l, d h < 4096) (h0 : l ≠ []) : ownO d l ∈ l := (fold_least l hl h0).1
end Go.Proofs.YtfnbkmmfaaklnaaDoor

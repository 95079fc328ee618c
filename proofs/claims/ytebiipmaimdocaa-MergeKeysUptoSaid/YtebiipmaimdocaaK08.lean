/- Layer 8's laws, whatever the merge: what its calls must do. -/
import Derived.Test.YtebiipmaimdocaaG12
namespace Go.Proofs.Ytebiipmaimdocaa
open Go.RowKit Go.Maps Go.WideMaps Go.Shelf
set_option linter.unusedVariables false

/-- Sequences in a row that can be read while G's blocks stay. -/
def SeqsIn (w : World) (x : Value) (ls : List (List PairS)) (G : Nat → Prop) : Prop :=
  (∀ j, G j → j < w.heap.size) ∧ ls.length ≤ 9223372036854775807 ∧ ∃ a c, x = .slice a ls.length c ∧ (ls.length ≤ c ∧ c ≤ maxLen) ∧ (ls = [] ∨ ∃ b o, a = some ⟨b, o, none⟩ ∧ G b ∧ ∀ i (h : i < ls.length), ∃ u Gi, w.cell? ⟨b, o + i, none⟩ = some u ∧ SeqV w u ls[i] Gi ∧ ∀ j, Gi j → G j)
/-- What a call makes that hands back a sequence. -/
def Made8 (w : World) (G : Nat → Prop) (l : List PairS) (e : Ending) (w' : World) : Prop :=
  ∃ g lb G', e = .returned (.func (.func g) #[] lb) ∧ SeqV w' (.func (.func g) #[] lb) l G' ∧ Below w.heap.size w w' ∧ ∀ j, G' j → G j ∨ w.heap.size ≤ j
structure MergeK : Prop where
  all : ∀ {w a c ls G}, SeqsIn w (.slice a ls.length c) ls G → GoodL ls → sumL8 ls + ls.length ≤ 1099511627776 → Calls Try.prog 12 #[.slice a ls.length c] w (Made8 w G (allP ls))
  live : ∀ {w v l G}, SeqV w v l G → l.length ≤ 3518437208780 → Calls Try.prog 15 #[v] w (Made8 w G (liveP l))
  some : ∀ {w v l G} (to : ByteArray) (most : Int), SeqV w v l G → l.length ≤ 3518437208780 → (Lit.int .i64 most).wf = true → Calls Try.prog 18 #[v, .string to, .int .i64 most] w fun e w' => ∃ r, e = .returned r ∧ ReadP w' r (someP l to most) ∧ Below w.heap.size w w'

theorem SeqV.func {w : World} {g : Nat} {lb : Array Value} {l : List PairS} {G : Nat → Prop} (h : SeqV w (.func (.func g) #[] lb) l G) :
    (∀ args w, (callFunc g args).run Try.prog w = .ok (.enter g args) w) ∧ (∀ w'', Keeps G w w'' → w.heap.size ≤ w''.heap.size → RunsC g lb G l w'') ∧ ∀ j, G j → j < w.heap.size := by
  rcases h with ⟨h, _⟩ | ⟨g', lb', h, h1, h2, h3⟩
  · cases h
  · injection h with e1 e2 e3
    injection e1 with e1
    subst e1
    subst e3
    exact ⟨h1, h2, h3⟩
theorem SeqV.below {w w' : World} {v : Value} {l : List PairS} {G : Nat → Prop} (h : SeqV w v l G) (t : Below w.heap.size w w') : SeqV w' v l G := by
  rcases h with h | ⟨g, lb, h1, h2, h3, h4⟩
  · exact .inl h
  · exact SeqV.keeps (.inr ⟨g, lb, h1, h2, h3, h4⟩) (Keeps.of_below t h4) t.size
theorem SeqsIn.below {w w' : World} {x : Value} {ls : List (List PairS)} {G : Nat → Prop} (h : SeqsIn w x ls G) (t : Below w.heap.size w w') : SeqsIn w' x ls G := by
  obtain ⟨h1, h2, a, c, rfl, h0, h3⟩ := h
  refine ⟨fun j hj => Nat.lt_of_lt_of_le (h1 j hj) t.size, h2, a, c, rfl, h0, ?_⟩
  rcases h3 with h3 | ⟨b, o, rfl, hb, h3⟩
  · exact .inl h3
  · refine .inr ⟨b, o, rfl, hb, fun i hi => ?_⟩
    obtain ⟨u, Gi, q1, q2, q3⟩ := h3 i hi
    exact ⟨u, Gi, (t.cell (World.block_lt_of_cell? w ⟨b, o + i, none⟩ q1)).trans q1, q2.below t, q3⟩
theorem SeqsIn.none (w : World) : SeqsIn w (.slice none 0 0) [] (fun _ => False) := ⟨fun _ h => h.elim, by simp, _, _, rfl, by decide, .inl rfl⟩
theorem OwnS.seqsP {P : Nat → Prop} {w : World} {base : Nat} {v : Value} {xs : List Value} {ls : List (List PairS)} (h : OwnS P w base v xs ls) (hP : ∀ k, base ≤ k → P k) : SeqsIn w v ls (fun j => P j ∧ j < w.heap.size) := by
  have hr := h.row
  rcases h.row.2 with ⟨rfl, h0⟩ | ⟨g, cap, cur, rfl, hbg, hg, hle, hcm, _⟩
  · have : ls = [] := List.eq_nil_of_length_eq_zero h0
    subst this
    exact ⟨fun _ h => h.2, by simp, _, _, rfl, by decide, .inl rfl⟩
  · refine ⟨fun _ h => h.2, by unfold maxLen at hcm; omega, some ⟨g, 0, .none⟩, cap, rfl, ⟨hle, hcm⟩, .inr ⟨g, 0, rfl, ⟨hP g hbg, block_lt hg⟩, fun i hi => ?_⟩⟩
    obtain ⟨u, Gi, h1, h2, h3⟩ := h.each i hi
    rw [Nat.zero_add]
    exact ⟨u, Gi, (hr.cellAt i (by omega)).trans h1, h2, fun j hj => ⟨(h3 j hj).2, (h3 j hj).1.2⟩⟩
theorem OwnS.seqs {w : World} {base : Nat} {v : Value} {xs : List Value} {ls : List (List PairS)} (h : OwnS (fun _ => True) w base v xs ls) : ∃ G, SeqsIn w v ls G := ⟨_, h.seqsP fun _ _ => trivial⟩
/-- What was made, collected. -/
theorem made_collect {w' : World} {G : Nat → Prop} {l : List PairS} {g : Nat} {lb : Array Value} (h : SeqV w' (.func (.func g) #[] lb) l G) (hN : l.length ≤ 3518437208780) :
    Calls Try.prog 11 #[.func (.func g) #[] lb] w' fun e W' => ∃ a c, e = .returned (.slice a l.length c) ∧ ReadP W' (.slice a l.length c) l ∧ Below w'.heap.size w' W' := by
  obtain ⟨h1, h2, h3⟩ := h.func
  refine (collectC g lb h1 G l w' h3 (by omega) h2).mono ?_
  rintro e W' ⟨v, rfl, hrow, hb⟩
  obtain ⟨a, c, rfl⟩ := row_slice hrow
  exact ⟨a, c, rfl, ReadP.own hrow, hb⟩
theorem same8_true {w : World} {x y : Value} {a : List PairS} (ha : ReadP w x a) (hb : ReadP w y a) : Calls Try.prog 10 #[x, y] w fun e w' => e = .returned (.bool true) ∧ ∃ n, w' = w.drewN n := by
  have := rsame_any ha hb
  rwa [sameP_refl] at this
theorem own8_cap {w : World} {base : Nat} {e : TypeId} {sz n c : Nat} {a : Option Addr} {xs : List Value} (h : w.ownsRow base e sz (.slice a n c) n xs) : n ≤ c ∧ c ≤ maxLen := by
  rcases h.2 with ⟨hv, h0⟩ | ⟨g, cap, cur, hv, _, _, h1, h2, _⟩
  · injection hv with _ _ e; subst e; subst h0; exact ⟨Nat.le_refl _, by decide⟩
  · injection hv with _ _ e; subst e; exact ⟨h1, h2⟩
end Go.Proofs.Ytebiipmaimdocaa

/- Layer 14: states whose lists are the call's own; contracts of slices.Clone and copyOf. -/
import Derived.Test.YtlkfpeefjpmmfaaW14d
import Derived.Test.YtlkfpeefjpmmfaaW12f
import Derived.Lib.SliceRun
namespace Go.Proofs.Ytlkfpeefjpmmfaa
open Go.RowKit
set_option linter.unusedVariables false

/-- A state whose lists are the call's own, in blocks of their own. -/
structure StOwn (base : Nat) (w : World) (g j k : Value) (S : StS) : Prop where
  rg : ReadG w g S.prog.steps
  og : w.ownsRow base 53 6 g S.prog.steps.length (rowG S.prog.steps)
  oj : w.ownsRow base 49 4 j S.jobs.length (rowR JobS.cells S.jobs)
  ok : w.ownsRow base 51 3 k S.clocks.length (rowR ClkS.cells S.clocks)
  ne : (∀ q, g.ownBlock = some q → j.ownBlock ≠ some q ∧ k.ownBlock ≠ some q) ∧ ∀ q, j.ownBlock = some q → k.ownBlock ≠ some q
theorem StOwn.below {base : Nat} {w w' : World} {g j k : Value} {S : StS} (h : StOwn base w g j k S) (t : Below w.heap.size w w') : StOwn base w' g j k S :=
  ⟨h.rg.below t, ownsRow_below h.og t, ownsRow_below h.oj t, ownsRow_below h.ok t, h.ne⟩
theorem StOwn.read {base : Nat} {w : World} {g j k : Value} {S : StS} (h : StOwn base w g j k S) : ReadSt w g j k S :=
  ⟨h.rg, (OwnR.of (base' := 0) JobS.len h.oj (fun _ _ => Nat.zero_le _)).1, (OwnR.of (base' := 0) ClkS.len h.ok (fun _ _ => Nat.zero_le _)).1⟩
theorem StOwn.zero (base : Nat) (w : World) : StOwn base w (.slice none 0 0) (.slice none 0 0) (.slice none 0 0) StS.zero :=
  ⟨ReadG.nil' w, World.ownsRow_nil _ _ _ _, World.ownsRow_nil _ _ _ _, World.ownsRow_nil _ _ _ _, fun q h => by simp [Value.ownBlock] at h, fun q h => by simp [Value.ownBlock] at h⟩
theorem StOwn.mono {base base' : Nat} {w : World} {g j k : Value} {S : StS} (h : StOwn base w g j k S) (hb : base' ≤ base) : StOwn base' w g j k S :=
  ⟨h.rg, ownsRow_base h.og hb, ownsRow_base h.oj hb, ownsRow_base h.ok hb, h.ne⟩
theorem rowR_one {α : Type} (f : α → List Value) (h : ∀ x, ∀ u ∈ f x, u.oneCell' = true) (l : List α) : ∀ u ∈ rowR f l, u.oneCell' = true := by
  intro u hu
  obtain ⟨x, _, hx⟩ := List.mem_flatMap.1 hu
  exact h x u hx

set_option maxHeartbeats 1000000 in
set_option maxRecDepth 100000 in
theorem cloneG_any {w : World} {v : Value} {l : List StepS} (h : ReadG w v l) (hb : l.length ≤ 1000) :
    Calls Try.prog 40 #[v] w fun e w' => ∃ a c, e = .returned (.slice a l.length c) ∧ w'.ownsRow w.heap.size 53 6 (.slice a l.length c) l.length (rowG l) ∧ Below w.heap.size w w' := by
  obtain ⟨i0, hi, hz0, hz1, hz2⟩ := info_parts infoStep
  have hq := fun (w : World) (a : Option Addr) (n c : Nat) => Lib.run_eql_slice_nil (P := Try.prog) w 24 53 a n c 0 0 Try.underlying24
  obtain ⟨h1, h2, a, c, rfl, hrow⟩ := h
  cases a with
  | none =>
    have hl : l = [] := by
      rcases hrow with hl | ⟨b, o, h, _⟩
      · exact hl
      · cases h
    subst hl
    go_enter Try.func40, Try.ntmps40
    go_wp2
    go_ret
    exact ⟨none, 0, rfl, World.ownsRow_nil _ _ _ _, Below.refl _ _⟩
  | some ad =>
    have hown := World.ownsRow_made (base := w.heap.size) (e := 53) (size := 6) w #[] 0 (Nat.le_refl _) (by unfold maxLen; omega) rfl
    have hsrc : SrcRow (w.alloc (.cells #[] 53)) (.slice (some ad) l.length c) l.length 6 (rowG l) := by
      refine ⟨rowG_len l, rowG_one l, .inr ⟨ad, c, rfl, fun t u hu => ?_⟩⟩
      rcases hrow with hl | ⟨b, o, h, hc⟩
      · subst hl; simp [rowG] at hu
      · injection h with h
        subst h
        have ht : t < l.length * 6 := by
          have := (List.getElem?_eq_some_iff.1 hu).1
          have h2 : (rowG l).length = l.length * 6 := rowG_len l
          omega
        have htl : t / 6 < l.length := by omega
        have hts : t = t / 6 * 6 + t % 6 := by omega
        have hm : t % 6 < ((StepS.cells l[t / 6])).length := by
          rw [show (StepS.cells l[t / 6]).length = 6 from rfl]; omega
        have hx := rowG_at l (t / 6) htl (t % 6) _ (List.getElem?_eq_getElem hm)
        rw [← hts, hu] at hx
        have hc2 := hc (t / 6) htl (t % 6) _ (List.getElem?_eq_getElem hm)
        rw [Nat.add_assoc, ← hts] at hc2
        rw [← Option.some.inj hx] at hc2
        rw [Addr.add_lit, World.cell?_of_block (w := w) (Below.heap_alloc _ _ _ (World.block_lt_of_cell? _ _ hc2))]
        exact hc2
    have HS := Lib.hid hsrc
    have HO := Lib.hid hown
    clear hsrc hown hrow h1 h2
    go_enter Try.func40, Try.ntmps40
    go_wp2_with (at_builtin; refine wpList_app _ rfl (.tmp 5) (.tmp 6) rfl Try.underlying24 hi hz0 hz1 hz2 rfl (by decide) rfl (ownsRow_base HO.out (Nat.zero_le _)) rfl HS.out (by omega) (by unfold maxLen; omega) ?_)
    intro v' w1 ho hg hk
    have HB1 : Hid (Below w.heap.size w w1) := ((Below.refl _ w).alloc (Nat.le_refl _) _).grown hg (by simp) (fun k hk => by simp [Value.ownBlock] at hk; omega)
    have hk2 : ∀ k, v'.ownBlock = some k → w.heap.size ≤ k := fun k h => by
      rcases hk k h with e | e
      · simp [Value.ownBlock] at e; omega
      · (try simp at e); omega
    obtain ⟨a', c', rfl⟩ := row_slice12 ho
    have HO2 := Lib.hid (ownsRow_up ho hk2)
    clear ho hg hk hk2 hi
    go_wp2
    go_ret
    refine ⟨a', c', ?_, ?_, HB1.out⟩
    · rfl
    · have := HO2.out
      simpa only [Nat.zero_add, List.nil_append] using this

set_option maxHeartbeats 1000000 in
set_option maxRecDepth 100000 in
theorem cloneJ_any {w : World} {v : Value} {l : List JobS} (h : ReadJ w v l) (hb : l.length ≤ 1000) :
    Calls Try.prog 41 #[v] w fun e w' => ∃ a c, e = .returned (.slice a l.length c) ∧ w'.ownsRow w.heap.size 49 4 (.slice a l.length c) l.length (rowR JobS.cells l) ∧ Below w.heap.size w w' := by
  obtain ⟨i0, hi, hz0, hz1, hz2⟩ := info_parts infoJob
  have hq := fun (w : World) (a : Option Addr) (n c : Nat) => Lib.run_eql_slice_nil (P := Try.prog) w 27 49 a n c 0 0 Try.underlying27
  obtain ⟨h1, a, c, rfl, hrow⟩ := h
  cases a with
  | none =>
    have hl : l = [] := by
      rcases hrow with hl | ⟨b, o, h, _⟩
      · exact hl
      · cases h
    subst hl
    go_enter Try.func41, Try.ntmps41
    go_wp2
    go_ret
    exact ⟨none, 0, rfl, World.ownsRow_nil _ _ _ _, Below.refl _ _⟩
  | some ad =>
    have hown := World.ownsRow_made (base := w.heap.size) (e := 49) (size := 4) w #[] 0 (Nat.le_refl _) (by unfold maxLen; omega) rfl
    have hsrc : SrcRow (w.alloc (.cells #[] 49)) (.slice (some ad) l.length c) l.length 4 (rowR JobS.cells l) := by
      refine ⟨rowR_len JobS.cells 4 JobS.len l, rowR_one JobS.cells JobS.one l, .inr ⟨ad, c, rfl, fun t u hu => ?_⟩⟩
      rcases hrow with hl | ⟨b, o, h, hc⟩
      · subst hl; simp [rowR] at hu
      · injection h with h
        subst h
        have ht : t < l.length * 4 := by
          have := (List.getElem?_eq_some_iff.1 hu).1
          have h2 : (rowR JobS.cells l).length = l.length * 4 := rowR_len JobS.cells 4 JobS.len l
          omega
        have htl : t / 4 < l.length := by omega
        have hts : t = t / 4 * 4 + t % 4 := by omega
        have hm : t % 4 < ((JobS.cells l[t / 4])).length := by
          rw [JobS.len]; omega
        have hx := rowR_at JobS.cells 4 JobS.len l (t / 4) htl (t % 4) _ (List.getElem?_eq_getElem hm)
        rw [← hts, hu] at hx
        have hc2 := hc (t / 4) htl (t % 4) _ (List.getElem?_eq_getElem hm)
        rw [Nat.add_assoc, ← hts] at hc2
        rw [← Option.some.inj hx] at hc2
        rw [Addr.add_lit, World.cell?_of_block (w := w) (Below.heap_alloc _ _ _ (World.block_lt_of_cell? _ _ hc2))]
        exact hc2
    have HS := Lib.hid hsrc
    have HO := Lib.hid hown
    clear hsrc hown hrow h1
    go_enter Try.func41, Try.ntmps41
    go_wp2_with (at_builtin; refine wpList_app _ rfl (.tmp 5) (.tmp 6) rfl Try.underlying27 hi hz0 hz1 hz2 rfl (by decide) rfl (ownsRow_base HO.out (Nat.zero_le _)) rfl HS.out (by omega) (by unfold maxLen; omega) ?_)
    intro v' w1 ho hg hk
    have HB1 : Hid (Below w.heap.size w w1) := ((Below.refl _ w).alloc (Nat.le_refl _) _).grown hg (by simp) (fun k hk => by simp [Value.ownBlock] at hk; omega)
    have hk2 : ∀ k, v'.ownBlock = some k → w.heap.size ≤ k := fun k h => by
      rcases hk k h with e | e
      · simp [Value.ownBlock] at e; omega
      · (try simp at e); omega
    obtain ⟨a', c', rfl⟩ := row_slice12 ho
    have HO2 := Lib.hid (ownsRow_up ho hk2)
    clear ho hg hk hk2 hi
    go_wp2
    go_ret
    refine ⟨a', c', ?_, ?_, HB1.out⟩
    · rfl
    · have := HO2.out
      simpa only [Nat.zero_add, List.nil_append] using this

set_option maxHeartbeats 1000000 in
set_option maxRecDepth 100000 in
theorem cloneC_any {w : World} {v : Value} {l : List ClkS} (h : ReadC w v l) (hb : l.length ≤ 1000) :
    Calls Try.prog 42 #[v] w fun e w' => ∃ a c, e = .returned (.slice a l.length c) ∧ w'.ownsRow w.heap.size 51 3 (.slice a l.length c) l.length (rowR ClkS.cells l) ∧ Below w.heap.size w w' := by
  obtain ⟨i0, hi, hz0, hz1, hz2⟩ := info_parts infoClk
  have hq := fun (w : World) (a : Option Addr) (n c : Nat) => Lib.run_eql_slice_nil (P := Try.prog) w 28 51 a n c 0 0 Try.underlying28
  obtain ⟨h1, a, c, rfl, hrow⟩ := h
  cases a with
  | none =>
    have hl : l = [] := by
      rcases hrow with hl | ⟨b, o, h, _⟩
      · exact hl
      · cases h
    subst hl
    go_enter Try.func42, Try.ntmps42
    go_wp2
    go_ret
    exact ⟨none, 0, rfl, World.ownsRow_nil _ _ _ _, Below.refl _ _⟩
  | some ad =>
    have hown := World.ownsRow_made (base := w.heap.size) (e := 51) (size := 3) w #[] 0 (Nat.le_refl _) (by unfold maxLen; omega) rfl
    have hsrc : SrcRow (w.alloc (.cells #[] 51)) (.slice (some ad) l.length c) l.length 3 (rowR ClkS.cells l) := by
      refine ⟨rowR_len ClkS.cells 3 ClkS.len l, rowR_one ClkS.cells ClkS.one l, .inr ⟨ad, c, rfl, fun t u hu => ?_⟩⟩
      rcases hrow with hl | ⟨b, o, h, hc⟩
      · subst hl; simp [rowR] at hu
      · injection h with h
        subst h
        have ht : t < l.length * 3 := by
          have := (List.getElem?_eq_some_iff.1 hu).1
          have h2 : (rowR ClkS.cells l).length = l.length * 3 := rowR_len ClkS.cells 3 ClkS.len l
          omega
        have htl : t / 3 < l.length := by omega
        have hts : t = t / 3 * 3 + t % 3 := by omega
        have hm : t % 3 < ((ClkS.cells l[t / 3])).length := by
          rw [ClkS.len]; omega
        have hx := rowR_at ClkS.cells 3 ClkS.len l (t / 3) htl (t % 3) _ (List.getElem?_eq_getElem hm)
        rw [← hts, hu] at hx
        have hc2 := hc (t / 3) htl (t % 3) _ (List.getElem?_eq_getElem hm)
        rw [Nat.add_assoc, ← hts] at hc2
        rw [← Option.some.inj hx] at hc2
        rw [Addr.add_lit, World.cell?_of_block (w := w) (Below.heap_alloc _ _ _ (World.block_lt_of_cell? _ _ hc2))]
        exact hc2
    have HS := Lib.hid hsrc
    have HO := Lib.hid hown
    clear hsrc hown hrow h1
    go_enter Try.func42, Try.ntmps42
    go_wp2_with (at_builtin; refine wpList_app _ rfl (.tmp 5) (.tmp 6) rfl Try.underlying28 hi hz0 hz1 hz2 rfl (by decide) rfl (ownsRow_base HO.out (Nat.zero_le _)) rfl HS.out (by omega) (by unfold maxLen; omega) ?_)
    intro v' w1 ho hg hk
    have HB1 : Hid (Below w.heap.size w w1) := ((Below.refl _ w).alloc (Nat.le_refl _) _).grown hg (by simp) (fun k hk => by simp [Value.ownBlock] at hk; omega)
    have hk2 : ∀ k, v'.ownBlock = some k → w.heap.size ≤ k := fun k h => by
      rcases hk k h with e | e
      · simp [Value.ownBlock] at e; omega
      · (try simp at e); omega
    obtain ⟨a', c', rfl⟩ := row_slice12 ho
    have HO2 := Lib.hid (ownsRow_up ho hk2)
    clear ho hg hk hk2 hi
    go_wp2
    go_ret
    refine ⟨a', c', ?_, ?_, HB1.out⟩
    · rfl
    · have := HO2.out
      simpa only [Nat.zero_add, List.nil_append] using this

theorem ownsRow_drew {w : World} {base : Nat} {E : TypeId} {sz : Nat} {v : Value} {n : Nat} {xs : List Value} (h : w.ownsRow base E sz v n xs) : w.drew.ownsRow base E sz v n xs := h
theorem undrew_grown {w w' : World} {r : Option Nat} (h : w.drew.grownBy w' r) : w.grownBy w' r := ⟨h.os, h.tape, h.output, h.size, h.block⟩
theorem row_other {w w' : World} {base : Nat} {E : TypeId} {sz : Nat} {v : Value} {n : Nat} {xs : List Value} {q : Nat} (h : w.ownsRow base E sz v n xs) (hq : v.ownBlock ≠ some q) (ho : ∀ k, k ≠ q → w'.heap[k]? = w.heap[k]?) : w'.ownsRow base E sz v n xs := by
  refine ⟨h.1, ?_⟩
  rcases h.2 with h1 | ⟨g, cap, cur, rfl, hb, hgg, rest⟩
  · exact .inl h1
  · exact .inr ⟨g, cap, cur, rfl, hb, (ho g (fun e => hq (by rw [e]; rfl))).trans hgg, rest⟩
theorem row_ne {w : World} {base : Nat} {E : TypeId} {sz : Nat} {v : Value} {n : Nat} {xs : List Value} {q : Nat} (h : w.ownsRow base E sz v n xs) (hq : q < base) : v.ownBlock ≠ some q := fun e => by have := (h.lt q e).1; omega
theorem set_other (w : World) (q i : Nat) (u : Value) : ∀ k, k ≠ q → (w.setCell ⟨q, i, none⟩ u).heap[k]? = w.heap[k]? := fun k hk => Below.heap_setCell _ _ _ _ hk

set_option maxHeartbeats 4000000 in
set_option maxRecDepth 100000 in
theorem copyOf_any {w : World} {g j k : Value} (S : StS) (h : ReadSt w g j k S) (hg : S.prog.steps.length ≤ 1000) (hj : S.jobs.length ≤ 1000) (hk : S.clocks.length ≤ 1000) :
    Calls Try.prog 19 #[S.val' g j k] w fun x w' => ∃ g' j' k', x = .returned (S.val' g' j' k') ∧ StOwn w.heap.size w' g' j' k' S ∧ Below w.heap.size w w' := by
  obtain ⟨ga, gc, rfl⟩ := h.g.slice
  obtain ⟨ja, jc, rfl⟩ := h.j.slice
  obtain ⟨ka, kc, rfl⟩ := h.c.slice
  obtain ⟨w1, hw1, b1, X1, hs1⟩ := stBoxed w (.slice ga S.prog.steps.length gc) (.slice ja S.jobs.length jc) (.slice ka S.clocks.length kc) S
  obtain ⟨w2, hw2⟩ : ∃ w2, w1.alloc (.cells zeroSt 30) = w2 := ⟨_, rfl⟩
  have b2 : Below w1.heap.size w1 w2 := by rw [← hw2]; exact (Below.refl _ w1).alloc (Nat.le_refl _) _
  have hn2 : w2.heap[w1.heap.size]? = some (.cells zeroSt 30 (0, 0)) := by rw [← hw2]; exact heap_alloc_new _ _
  have hs2 : w2.heap.size = w.heap.size + 2 := by rw [← hw2]; simp; omega
  have HS := Lib.hid (And.intro hs1 hs2)
  have B2 := Lib.hid (b1.trans (b2.mono b1.size))
  have X2 := Lib.hid (X1.later b2)
  have N2 := Lib.hid hn2
  have HCG : Hid (∀ wx, Below w.heap.size w wx → Calls Try.prog 40 #[.slice ga S.prog.steps.length gc] wx fun e w' => ∃ a c, e = .returned (.slice a S.prog.steps.length c) ∧ w'.ownsRow wx.heap.size 53 6 (.slice a S.prog.steps.length c) S.prog.steps.length (rowG S.prog.steps) ∧ Below wx.heap.size wx w') := fun wx t => cloneG_any (h.g.below t) hg
  have HCJ : Hid (∀ wx, Below w.heap.size w wx → Calls Try.prog 41 #[.slice ja S.jobs.length jc] wx fun e w' => ∃ a c, e = .returned (.slice a S.jobs.length c) ∧ w'.ownsRow wx.heap.size 49 4 (.slice a S.jobs.length c) S.jobs.length (rowR JobS.cells S.jobs) ∧ Below wx.heap.size wx w') := fun wx t => cloneJ_any (h.j.below t) hj
  have HCC : Hid (∀ wx, Below w.heap.size w wx → Calls Try.prog 42 #[.slice ka S.clocks.length kc] wx fun e w' => ∃ a c, e = .returned (.slice a S.clocks.length c) ∧ w'.ownsRow wx.heap.size 51 3 (.slice a S.clocks.length c) S.clocks.length (rowR ClkS.cells S.clocks) ∧ Below wx.heap.size wx w') := fun wx t => cloneC_any (h.c.below t) hk
  have HZ := Lib.hid h.g.2.1
  unfold zeroSt at hw2
  unfold StS.val'
  have c0 := (block_cell X2.out.cells 0).trans rfl
  clear h hs1 X1 b1 b2 hn2 hs2
  go_enter Try.func19, Try.ntmps19
  go_wp2_with fail
  refine (HCG.out _ B2.out).mono ?_
  rintro e w3 ⟨a3, c3, rfl, o3, b3⟩
  have O3 := Lib.hid o3
  have B3 := Lib.hid (B2.out.trans (b3.mono B2.out.size))
  have X3 := Lib.hid (X2.out.later b3)
  have N3 := Lib.hid ((b3.block _ (block_lt N2.out)).trans N2.out)
  have S3 := Lib.hid b3.size
  have f0 := block_free X3.out 0
  have d0 := (block_cell X3.out.cells 0).trans rfl
  clear c0 o3 b3 HCG
  go_upto_region 2 with (fail)
  obtain ⟨W3, hW3⟩ : ∃ W, w3.setCell ⟨w.heap.size, 0, none⟩ (.slice a3 S.prog.steps.length c3) = W := ⟨_, rfl⟩
  rw [hW3]
  have X3' : Hid (StBox W3 w.heap.size (.slice a3 S.prog.steps.length c3) (.slice ja S.jobs.length jc) (.slice ka S.clocks.length kc) S) := by rw [← hW3]; exact block_set X3.out 0 _
  have B3' : Hid (Below w.heap.size w W3) := by rw [← hW3]; exact B3.out.setCell (p := ⟨w.heap.size, 0, none⟩) (Nat.le_refl _) _
  have O3' : Hid (W3.ownsRow w2.heap.size 53 6 (.slice a3 S.prog.steps.length c3) S.prog.steps.length (rowG S.prog.steps)) := by rw [← hW3]; exact row_other O3.out (row_ne O3.out (by have := HS.out.2; omega)) (set_other _ _ _ _)
  have N3' : Hid (W3.heap[w1.heap.size]? = some (.cells zeroSt 30 (0, 0))) := by rw [← hW3]; exact (set_other _ _ _ _ _ (by have := HS.out.1; omega)).trans N3.out
  have S3' : Hid (w2.heap.size ≤ W3.heap.size) := by refine Lib.hid ?_; rw [← hW3]; have := S3.out; simpa [World.setCell] using this
  have c8 := (block_cell X3'.out.cells 8).trans rfl
  clear hW3 f0 d0 X3 B3 O3 N3 S3
  go_wp2_with fail
  refine (HCJ.out _ B3'.out).mono ?_
  rintro e w4 ⟨a4, c4, rfl, o4, b4⟩
  have O4 := Lib.hid o4
  have O43 := Lib.hid (ownsRow_below O3'.out b4)
  have L43 := Lib.hid O3'.out.lt
  have B4 := Lib.hid (B3'.out.trans (b4.mono B3'.out.size))
  have X4 := Lib.hid (X3'.out.later b4)
  have N4 := Lib.hid ((b4.block _ (block_lt N3'.out)).trans N3'.out)
  have S4 := Lib.hid b4.size
  have f8 := block_free X4.out 8
  have d8 := (block_cell X4.out.cells 8).trans rfl
  clear c8 o4 b4 HCJ
  go_upto_region 3 with (fail)
  obtain ⟨W4, hW4⟩ : ∃ W, w4.setCell ⟨w.heap.size, 8, none⟩ (.slice a4 S.jobs.length c4) = W := ⟨_, rfl⟩
  rw [hW4]
  have X4' : Hid (StBox W4 w.heap.size (.slice a3 S.prog.steps.length c3) (.slice a4 S.jobs.length c4) (.slice ka S.clocks.length kc) S) := by rw [← hW4]; exact block_set X4.out 8 _
  have B4' : Hid (Below w.heap.size w W4) := by rw [← hW4]; exact B4.out.setCell (p := ⟨w.heap.size, 8, none⟩) (Nat.le_refl _) _
  have O43' : Hid (W4.ownsRow w2.heap.size 53 6 (.slice a3 S.prog.steps.length c3) S.prog.steps.length (rowG S.prog.steps)) := by rw [← hW4]; exact row_other O43.out (row_ne O43.out (by have := HS.out.2; omega)) (set_other _ _ _ _)
  have O44' : Hid (W4.ownsRow W3.heap.size 49 4 (.slice a4 S.jobs.length c4) S.jobs.length (rowR JobS.cells S.jobs)) := by rw [← hW4]; exact row_other O4.out (row_ne O4.out (by have := HS.out.2; have := S3'.out; omega)) (set_other _ _ _ _)
  have N4' : Hid (W4.heap[w1.heap.size]? = some (.cells zeroSt 30 (0, 0))) := by rw [← hW4]; exact (set_other _ _ _ _ _ (by have := HS.out.1; omega)).trans N4.out
  have S4' : Hid (W3.heap.size ≤ W4.heap.size) := by refine Lib.hid ?_; rw [← hW4]; have := S4.out; simpa [World.setCell] using this
  have c9 := (block_cell X4'.out.cells 9).trans rfl
  clear hW4 f8 d8 X4 B4 O43 O4 N4 S4 O3' N3'
  go_wp2_with fail
  refine (HCC.out _ B4'.out).mono ?_
  rintro e w5 ⟨a5, c5, rfl, o5, b5⟩
  have O5 := Lib.hid o5
  have O53 := Lib.hid (ownsRow_below O43'.out b5)
  have O54 := Lib.hid (ownsRow_below O44'.out b5)
  have L54 := Lib.hid O44'.out.lt
  have B5 := Lib.hid (B4'.out.trans (b5.mono B4'.out.size))
  have X5 := Lib.hid (X4'.out.later b5)
  have N5 := Lib.hid ((b5.block _ (block_lt N4'.out)).trans N4'.out)
  have f9 := block_free X5.out 9
  have d9 := (block_cell X5.out.cells 9).trans rfl
  clear c9 o5 b5 HCC
  go_upto_region 4 with (fail)
  obtain ⟨W5, hW5⟩ : ∃ W, w5.setCell ⟨w.heap.size, 9, none⟩ (.slice a5 S.clocks.length c5) = W := ⟨_, rfl⟩
  rw [hW5]
  have X5' : Hid (StBox W5 w.heap.size (.slice a3 S.prog.steps.length c3) (.slice a4 S.jobs.length c4) (.slice a5 S.clocks.length c5) S) := by rw [← hW5]; exact block_set X5.out 9 _
  have B5' : Hid (Below w.heap.size w W5) := by rw [← hW5]; exact B5.out.setCell (p := ⟨w.heap.size, 9, none⟩) (Nat.le_refl _) _
  have O53' : Hid (W5.ownsRow w2.heap.size 53 6 (.slice a3 S.prog.steps.length c3) S.prog.steps.length (rowG S.prog.steps)) := by rw [← hW5]; exact row_other O53.out (row_ne O53.out (by have := HS.out.2; omega)) (set_other _ _ _ _)
  have O54' : Hid (W5.ownsRow W3.heap.size 49 4 (.slice a4 S.jobs.length c4) S.jobs.length (rowR JobS.cells S.jobs)) := by rw [← hW5]; exact row_other O54.out (row_ne O54.out (by have := HS.out.2; have := S3'.out; omega)) (set_other _ _ _ _)
  have O55' : Hid (W5.ownsRow W4.heap.size 51 3 (.slice a5 S.clocks.length c5) S.clocks.length (rowR ClkS.cells S.clocks)) := by rw [← hW5]; exact row_other O5.out (row_ne O5.out (by have := HS.out.2; have := S3'.out; have := S4'.out; omega)) (set_other _ _ _ _)
  have N5' : Hid (W5.heap[w1.heap.size]? = some (.cells zeroSt 30 (0, 0))) := by rw [← hW5]; exact (set_other _ _ _ _ _ (by have := HS.out.1; omega)).trans N5.out
  clear hW5 f9 d9 X5 B5 O53 O54 O5 N5 O43' O44' N4'
  have p0 := (block_cell X5'.out.cells 0).trans rfl
  have p1 := (block_cell X5'.out.cells 1).trans rfl
  have p2 := (block_cell X5'.out.cells 2).trans rfl
  have p3 := (block_cell X5'.out.cells 3).trans rfl
  have p4 := (block_cell X5'.out.cells 4).trans rfl
  have p5 := (block_cell X5'.out.cells 5).trans rfl
  have p6 := (block_cell X5'.out.cells 6).trans rfl
  have p7 := (block_cell X5'.out.cells 7).trans rfl
  have p8 := (block_cell X5'.out.cells 8).trans rfl
  have p9 := (block_cell X5'.out.cells 9).trans rfl
  have p10 := (block_cell X5'.out.cells 10).trans rfl
  have p11 := (block_cell X5'.out.cells 11).trans rfl
  have hn5 : W5.heap[w1.heap.size]? = some (.cells #[.slice none 0 0, .int .i64 0, .int .i64 0, .int .i64 0, .int .i64 0, .int .i64 0, .int .i64 0, .bool false, .slice none 0 0, .slice none 0 0, .bool false, .bool false] 30 (0, 0)) := N5'.out
  have q0 := (block_cell hn5 0).trans rfl
  have q1 := (block_cell hn5 1).trans rfl
  have q2 := (block_cell hn5 2).trans rfl
  have q3 := (block_cell hn5 3).trans rfl
  have q4 := (block_cell hn5 4).trans rfl
  have q5 := (block_cell hn5 5).trans rfl
  have q6 := (block_cell hn5 6).trans rfl
  have q7 := (block_cell hn5 7).trans rfl
  have q8 := (block_cell hn5 8).trans rfl
  have q9 := (block_cell hn5 9).trans rfl
  have q10 := (block_cell hn5 10).trans rfl
  have q11 := (block_cell hn5 11).trans rfl
  have f0 := block_free hn5 0
  have f1 := block_free hn5 1
  have f2 := block_free hn5 2
  have f3 := block_free hn5 3
  have f4 := block_free hn5 4
  have f5 := block_free hn5 5
  have f6 := block_free hn5 6
  have f7 := block_free hn5 7
  have f8 := block_free hn5 8
  have f9 := block_free hn5 9
  have f10 := block_free hn5 10
  have f11 := block_free hn5 11
  clear hn5
  go_wp2
  (try simp only [Exit.inBlock, Exit.then])
  refine bodyPost_ret (v := S.val' (.slice a3 S.prog.steps.length c3) (.slice a4 S.jobs.length c4) (.slice a5 S.clocks.length c5)) ?_ rfl ⟨.slice a3 S.prog.steps.length c3, .slice a4 S.jobs.length c4, .slice a5 S.clocks.length c5, rfl, ?_, (setSt W5 w1.heap.size _ _ _ _ _ _ _ _ _ _ _ _).2 _ _ B5'.out (by have := HS.out.1; omega)⟩
  · rw [results_cell14 rfl]
    unfold StS.val'
    go_simp
  · have hS := HS.out
    have hS3 := S3'.out
    have hS4 := S4'.out
    have ho := (setSt W5 w1.heap.size (.slice a3 S.prog.steps.length c3) (.int .i64 S.prog.limit) (.int .i64 S.status) (.int .i64 S.next) (.int .i64 S.began) (.int .i64 S.asked) (.int .i64 S.taken) (.bool S.fresh) (.slice a4 S.jobs.length c4) (.slice a5 S.clocks.length c5) (.bool S.cancel) (.bool S.overdue)).1
    have r3 := row_other O53'.out (row_ne O53'.out (by omega)) ho
    have r4 := row_other O54'.out (row_ne O54'.out (by omega)) ho
    have r5 := row_other O55'.out (row_ne O55'.out (by omega)) ho
    refine ⟨ReadG.own r3 HZ.out, ownsRow_base r3 (by omega), ownsRow_base r4 (by omega), ownsRow_base r5 (by omega), ⟨fun q hq => ⟨fun hj => ?_, fun hk => ?_⟩, fun q hj hk => ?_⟩⟩
    · have h1 := (L43.out q hq).2
      have h2 := (r4.lt q hj).1
      omega
    · have h1 := (L43.out q hq).2
      have h2 := (r5.lt q hk).1
      omega
    · have h1 := (L54.out q hj).2
      have h2 := (r5.lt q hk).1
      omega
end Go.Proofs.Ytlkfpeefjpmmfaa

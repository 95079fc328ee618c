/- Layer 12: the contract of the program's Decode; progK. -/
import Derived.Test.YtlkfpeefjpmmfaaJ26
import Derived.Test.YtlkfpeefjpmmfaaJ28
import Derived.Test.YtlkfpeefjpmmfaaR12g
import Derived.Deep.RegionLaw
namespace Go.Proofs.Ytlkfpeefjpmmfaa
open Go.RowKit
set_option linter.unusedVariables false

theorem Most.stepV {N : Nat} {R : Option (List UInt8)} (h : Most N R) : Most N (rdStepV R).2 ∧ FitG N (rdStepV R).1 := by
  have z : ∀ l : List UInt8, (⟨l.toArray⟩ : ByteArray).size = l.length := fun l => by show l.toArray.size = _; simp
  have z0 : (⟨#[]⟩ : ByteArray).size = 0 := rfl
  unfold rdStepV FitG
  simp only
  split
  · have a := (h.int 3).text
    have b := (a.1.int 5).text
    exact ⟨b.1.int 5, by rw [z]; exact a.2, by rw [z]; exact b.2⟩
  · split
    · exact ⟨(h.int 3).int 1000, by rw [z0]; omega, by rw [z0]; omega⟩
    · split
      · have a := (h.int 3).text
        exact ⟨a.1, by rw [z]; exact a.2, by rw [z0]; omega⟩
      · exact ⟨h.int 3, by rw [z0]; omega, by rw [z0]; omega⟩
theorem Most.stepsV {N : Nat} {R : Option (List UInt8)} (h : Most N R) : ∀ n, Most N (rdStepsV R n).2 ∧ ∀ x ∈ (rdStepsV R n).1, FitG N x
  | 0 => ⟨h, fun x hx => by cases hx⟩
  | n + 1 => by
    have ih := Most.stepsV h n
    have s := ih.1.stepV
    refine ⟨s.1, fun x hx => ?_⟩
    rcases List.mem_append.1 hx with hx | hx
    · exact ih.2 x hx
    · rw [List.mem_singleton.1 hx]; exact s.2

/-- .. and the program's row is the call's own. -/
theorem DecAt.endsO {w wr : World} {rb pb : Nat} {R : Option (List UInt8)} {v : Value} {l : List StepS} {lim : Int} (h : DecAt w wr rb pb R v l lim) (u1 u2 : Value) :
    ((wr.setCell ⟨w.heap.size, 0, none⟩ u1).setCell ⟨w.heap.size, 1, none⟩ u2).ownsRow 0 53 6 v l.length (rowG l) ∧ ∀ k, v.ownBlock = some k → w.heap.size ≤ k := by
  have hne : some w.heap.size ≠ v.ownBlock := fun e => by have := h.blk _ e.symm; have := h.ord; omega
  exact ⟨(h.row.kept (grownBy_set wr ⟨w.heap.size, 0, none⟩ u1) (.inr hne.symm)).kept (grownBy_set _ ⟨w.heap.size, 1, none⟩ u2) (.inr hne.symm), fun k hk => by have := h.blk k hk; have := h.ord; omega⟩

set_option maxHeartbeats 8000000 in
set_option maxRecDepth 100000 in
theorem decode_own (s : ByteArray) (hs : s.size ≤ 140737488351232) (w : World) :
    Calls Try.prog 32 #[.string s] w fun e w' => ∃ a c p E, e = .returned (.tuple #[p.val' a c, .int .i64 (E : Nat)]) ∧ ReadG w' (.slice a p.steps.length c) p.steps ∧ DecEnd s p E ∧ Below w.heap.size w w' ∧ w'.ownsRow 0 53 6 (.slice a p.steps.length c) p.steps.length (rowG p.steps) ∧ ∀ k, (Value.slice a p.steps.length c).ownBlock = some k → w.heap.size ≤ k := by
  obtain ⟨i0, hi0, hz0, hz1, hz2⟩ := info_parts infoStep
  obtain ⟨lim, hlim⟩ : ∃ n, (intS 16000 (some s.data.toList)).1 = n := ⟨_, rfl⟩
  obtain ⟨R1, hR1⟩ : ∃ R, (intS 16000 (some s.data.toList)).2 = R := ⟨_, rfl⟩
  obtain ⟨n, hn⟩ : ∃ n, (intS 16 R1).1 = n := ⟨_, rfl⟩
  obtain ⟨R2, hR2⟩ : ∃ R, (intS 16 R1).2 = R := ⟨_, rfl⟩
  have hn16 : n ≤ 16 := by rw [← hn]; exact numS_le 16 R1
  have hM : Most s.size R2 := by
    rw [← hR2, ← hR1]
    have : Most s.size (some s.data.toList) := fun r hr => by injection hr with hr; rw [← hr]; simp
    exact (this.int _).int _
  have HRP : Hid (rdProgV s.data.toList = (⟨(rdStepsV R2 n).1, (lim : Int)⟩, (rdStepsV R2 n).2)) := by
    show _ = _
    unfold rdProgV
    simp only [hlim, hR1, hn, hR2]
  have hFit := hM.stepsV
  obtain ⟨w1, hw1⟩ : ∃ w1, w.alloc (.cells #[.slice none 0 0, .int .i64 0] 26) = w1 := ⟨_, rfl⟩
  have hs1 : w1.heap.size = w.heap.size + 1 := by rw [← hw1]; simp
  have b1 : Below w.heap.size w w1 := by rw [← hw1]; exact (Below.refl _ _).alloc (Nat.le_refl _) _
  have hq1 : w1.heap[w.heap.size]? = some (.cells #[.slice none 0 0, .int .i64 0] 26 (0, 0)) := by rw [← hw1]; exact heap_alloc_new _ _
  have HRD := Lib.hid (read_any s hs w1)
  have H1 : Hid (w1.heap.size = w.heap.size + 1 ∧ Below w.heap.size w w1 ∧ w1.heap[w.heap.size]? = some (.cells #[.slice none 0 0, .int .i64 0] 26 (0, 0))) := ⟨hs1, b1, hq1⟩
  clear hs1 b1 hq1
  go_enter Try.func32, Try.ntmps32
  go_wp2_with fail
  refine HRD.out.mono ?_
  rintro e w2 ⟨rfl, rd2, bb2⟩
  have RD2 := Lib.hid rd2
  have BB2 := Lib.hid bb2
  clear HRD rd2 bb2
  go_wp2_with fail
  refine (int_any RD2.out 16000 (by omega)).mono ?_
  rintro e w3 ⟨rfl, l3⟩
  rw [hR1] at l3
  rw [hlim]
  have HD0 : Hid (DecAt w (w3.alloc (.cells #[.slice none 0 0, .int .i64 (lim : Int)] 26)) w1.heap.size w3.heap.size R1 (.slice none 0 0) [] (lim : Int)) := by
    obtain ⟨e1, e2, e3⟩ := H1.out
    have g3 := l3.2.size
    have g2 := BB2.out.size
    have hlt2 : w1.heap.size < w2.heap.size := RD2.out.lt
    have ha := (Below.refl w3.heap.size w3).alloc (Nat.le_refl _) (.cells #[.slice none 0 0, .int .i64 (lim : Int)] 26)
    have hb3 : Below w.heap.size w w3 := (e2.trans (BB2.out.mono (by omega))).trans (below_grownBy l3.2 (by omega) (by omega))
    have hq3 := (l3.2.block w.heap.size (by omega) (by simp; omega)).trans ((BB2.out.block _ (by omega)).trans e3)
    exact ⟨l3.1.below ha, heap_alloc_new _ _, World.ownsRow_nil _ _ _ _, fun k hk => by simp [Value.ownBlock] at hk, ⟨by omega, by omega⟩, hb3.trans (ha.mono hb3.size), (ha.block _ (block_lt hq3)).trans hq3⟩
  clear l3 H1 BB2 RD2
  go_wp2_with fail
  refine (int_any HD0.out.rd 16 (by omega)).mono ?_
  rintro e w4 ⟨rfl, l4⟩
  rw [hR2] at l4
  rw [hn]
  have HDc := Lib.hid (HD0.out.call l4)
  clear l4 HD0 hw1
  go_wp2
  generalize w3.heap.size = pb at *
  generalize w1.heap.size = rb at *
  go_loopw [13] (fun iv wr => ∃ (i : Nat) (v : Value), i ≤ n ∧ iv = .int .i64 (i : Int) ∧ Hid (DecAt w wr rb pb (rdStepsV R2 i).2 v (rdStepsV R2 i).1 (lim : Int))) (fun iv _ => n - (intOf iv).toNat)
  case atStart => exact ⟨0, _, Nat.zero_le _, rfl, HDc.out⟩
  case round =>
    clear HDc
    obtain ⟨i, v, hi, rfl, HI⟩ := hrel
    by_cases hlt : i < n
    · have HNX : Hid (rdStepsV R2 (i + 1) = ((rdStepsV R2 i).1 ++ [(rdStepV (rdStepsV R2 i).2).1], (rdStepV (rdStepsV R2 i).2).2)) := rfl
      have HLEN : Hid ((rdStepsV R2 i).1.length = i) := rdStepsV_len R2 i
      have hmes : n - (intOf (.int .i64 ((i : Int) + 1))).toNat < n - (intOf (.int .i64 (i : Int))).toNat := by simp [intOf]; omega
      generalize (rdStepsV R2 i).1 = L at *
      generalize (rdStepsV R2 i).2 = R at *
      obtain ⟨x, hx⟩ : ∃ x, (rdStepV R).1 = x := ⟨_, rfl⟩
      obtain ⟨R', hR'⟩ : ∃ R', (rdStepV R).2 = R' := ⟨_, rfl⟩
      have HRS : Hid ((rdStepV R).1 = x ∧ (rdStepV R).2 = R') := ⟨hx, hR'⟩
      obtain ⟨va, vc, rfl⟩ := row_slice12 HI.out.row
      have c0 : wr.cell? ⟨pb, 0, none⟩ = some (.slice va L.length vc) := by rw [block_cell HI.out.pg]; rfl
      clear hx hR'
      have HD0 : Hid (∀ w', Below wr.heap.size wr w' → DecAt w w' rb pb R (.slice va L.length vc) L (lim : Int)) := fun w' t => HI.out.later t
      have HR2 : Hid ((rdStepsV R2 (i + 1)).1 = L ++ [x] ∧ (rdStepsV R2 (i + 1)).2 = R') := by constructor <;> rw [HNX.out] <;> simp only [HRS.out.1, HRS.out.2]
      go_upto_region 5 with (fail)
      go_region_law (first
        | (go_simp; go_at_call 63; refine (readStep_any (HD0.out _ (by repeat (first | exact Below.refl _ _ | apply Below.drew))).rd).mono ?_; rintro e w5 ⟨rfl, t5⟩; dsimp only; rw [HRS.out.2] at t5; rw [HRS.out.1]; have HD5 := Lib.hid (DecAt.call (HD0.out _ (by repeat (first | exact Below.refl _ _ | apply Below.drew))) t5); have c0a : w5.cell? ⟨pb, 0, none⟩ = some (.slice va L.length vc) := (by rw [block_cell HD5.out.pg]; rfl); have c0b : (w5.alloc (.cells #[.int .i64 x.kind, .string x.name, .string x.undo, .int .i64 x.tries, .int .i64 x.undoTries, .int .i64 x.wait] 53)).cell? ⟨pb, 0, none⟩ = some (.slice va L.length vc) := (by rw [block_cell (HD5.out.alloc _).pg]; rfl); unfold StepS.val'; clear t5)
        | (refine step_app (w5.alloc (.cells #[.int .i64 x.kind, .string x.name, .string x.undo, .int .i64 x.tries, .int .i64 x.undoTries, .int .i64 x.wait] 53)) (T := 24) (E := 53) (i := i0) (z := .agg #[.int .i64 0, .string ⟨#[]⟩, .string ⟨#[]⟩, .int .i64 0, .int .i64 0, .int .i64 0]) (sz := 6) (bytes := 64) (v := .slice va L.length vc) (n := L.length) (xs := rowG L) (m := 1) (news := x.cells) (by rfl) (.tmp 16) (.tmp 19) (by rfl) Try.underlying24 hi0 hz0 hz1 hz2 rfl (by decide) (by rfl) (HD5.out.alloc _).row (by rfl) (src_new (sz := 6) w5 #[.int .i64 x.kind, .string x.name, .string x.undo, .int .i64 x.tries, .int .i64 x.undoTries, .int .i64 x.wait] 53 rfl (StepS.one x)) (by have := HLEN.out; omega) (by have := HLEN.out; unfold maxLen; omega) ?_; intro b6 c6 w6 own6 g6 l6; have HD6 := Lib.hid (DecAt.add (x := x) (HD5.out.alloc (.cells #[.int .i64 x.kind, .string x.name, .string x.undo, .int .i64 x.tries, .int .i64 x.undoTries, .int .i64 x.wait] 53)) g6 own6 l6); have hp6 := (g6.block pb (block_lt (HD5.out.alloc (.cells #[.int .i64 x.kind, .string x.name, .string x.undo, .int .i64 x.tries, .int .i64 x.undoTries, .int .i64 x.wait] 53)).pg) (fun e => by have := (HD5.out.alloc (.cells #[.int .i64 x.kind, .string x.name, .string x.undo, .int .i64 x.tries, .int .i64 x.undoTries, .int .i64 x.wait] 53)).blk pb e.symm; omega)).trans (HD5.out.alloc (.cells #[.int .i64 x.kind, .string x.name, .string x.undo, .int .i64 x.tries, .int .i64 x.undoTries, .int .i64 x.wait] 53)).pg; have p1 : w6.cell? ⟨pb, 0, none⟩ = some (.slice va L.length vc) := (by rw [block_cell hp6]; rfl); have p2 : w6.frozen? ⟨pb, 0, none⟩ = false := block_free hp6 0; clear own6 g6 l6 hp6))
      all_goals clear c0 c0a c0b p1 p2
      all_goals go_wp2
      all_goals go_roundw
      all_goals first | (case rel => exact ⟨i + 1, _, by omega, by go_num, by rw [HR2.out.1, HR2.out.2]; exact HD6.out⟩) | skip
      all_goals exact hmes
    · obtain rfl : i = n := by omega
      have HZS : Hid (∀ x ∈ (rdStepsV R2 i).1, x.name.size ≤ maxLen ∧ x.undo.size ≤ maxLen) := fun x hx => by
        have := (hFit i).2 x hx
        unfold FitG at this
        unfold maxLen
        omega
      have HYES : Hid (progB ⟨(rdStepsV R2 i).1, (lim : Int)⟩ = true → (rdStepsV R2 i).2 = some [] → okB s.data.toList = true ∧ (rdProg s.data.toList).1 = ⟨(rdStepsV R2 i).1, (lim : Int)⟩) := fun h1 h2 => by
        have := okV (l := s.data.toList) (by rw [HRP.out]; exact h1) (by rw [HRP.out]; exact h2)
        rw [HRP.out] at this
        exact this
      have HNO : Hid (¬ (progB ⟨(rdStepsV R2 i).1, (lim : Int)⟩ = true ∧ (rdStepsV R2 i).2 = some []) → okB s.data.toList = false) := fun h1 => noV (by rw [HRP.out]; exact h1)
      clear HRP hFit hM
      generalize (rdStepsV R2 i).1 = L at *
      generalize (rdStepsV R2 i).2 = R at *
      obtain ⟨va, vc, rfl⟩ := row_slice12 HI.out.row
      have HEND := Lib.hid (end_any HI.out.rd)
      by_cases he : R = some []
      · have hE : endS R = true := by rw [he]; rfl
        rw [hE] at HEND
        have p0 : wr.cell? ⟨pb, 0, none⟩ = some (.slice va L.length vc) := by rw [block_cell HI.out.pg]; rfl
        have p1 : wr.cell? ⟨pb, 1, none⟩ = some (.int .i64 (lim : Int)) := by rw [block_cell HI.out.pg]; rfl
        have hck := check_any (w := wr) (a := va) (c := vc) ⟨L, (lim : Int)⟩ (ReadG.own HI.out.row HZS.out)
        have HRE := Lib.hid he
        clear hE he
        by_cases hp : progB ⟨L, (lim : Int)⟩ = true
        · have hz : encE ⟨L, (lim : Int)⟩ = 0 := if_pos hp
          rw [hz] at hck
          unfold ProgS.val' at hck
          simp only at hck
          have HCK := Lib.hid hck
          have HOK := Lib.hid (HYES.out hp HRE.out)
          clear hck hz hp
          go_wp2_with fail
          refine HEND.out.mono ?_
          rintro e w5 ⟨rfl, rfl⟩
          go_wp2_with fail
          refine HCK.out.mono ?_
          rintro e w5 ⟨rfl, b5⟩
          have H5 := Lib.hid (HI.out.later b5)
          clear b5 p0 p1
          have p0 : w5.cell? ⟨pb, 0, none⟩ = some (.slice va L.length vc) := by rw [block_cell H5.out.pg]; rfl
          have p1 : w5.cell? ⟨pb, 1, none⟩ = some (.int .i64 (lim : Int)) := by rw [block_cell H5.out.pg]; rfl
          have q0 : w5.cell? ⟨w.heap.size, 0, none⟩ = some (.slice none 0 0) := by rw [block_cell H5.out.res]; rfl
          have q1 : w5.cell? ⟨w.heap.size, 1, none⟩ = some (.int .i64 0) := by rw [block_cell H5.out.res]; rfl
          have f0 := block_free H5.out.res 0
          have f1 := block_free H5.out.res 1
          go_wp2
          (try simp only [Exit.inBlock, Exit.then])
          refine bodyPost_ret (v := .tuple #[.agg #[.slice va L.length vc, .int .i64 (lim : Int)], .int .i64 0]) ?_ rfl ⟨va, vc, ⟨L, (lim : Int)⟩, 0, rfl, ?_⟩
          · rw [results_cell_tmp rfl]
            go_simp
          · obtain ⟨r1, r2⟩ := H5.out.ends HZS.out (.slice va L.length vc) (.int .i64 (lim : Int))
            exact ⟨r1, .inl ⟨HOK.out.1, HOK.out.2.symm, rfl⟩, r2, H5.out.endsO (.slice va L.length vc) (.int .i64 (lim : Int))⟩
        · have hz : encE ⟨L, (lim : Int)⟩ = 130 := if_neg hp
          rw [hz] at hck
          unfold ProgS.val' at hck
          simp only at hck
          have HCK := Lib.hid hck
          have HOK := Lib.hid (HNO.out (fun h => hp h.1))
          clear hck hz hp
          go_wp2_with fail
          refine HEND.out.mono ?_
          rintro e w5 ⟨rfl, rfl⟩
          go_wp2_with fail
          refine HCK.out.mono ?_
          rintro e w5 ⟨rfl, b5⟩
          have H5 := Lib.hid (HI.out.later b5)
          clear b5 p0 p1
          have q0 : w5.cell? ⟨w.heap.size, 0, none⟩ = some (.slice none 0 0) := by rw [block_cell H5.out.res]; rfl
          have q1 : w5.cell? ⟨w.heap.size, 1, none⟩ = some (.int .i64 0) := by rw [block_cell H5.out.res]; rfl
          have f0 := block_free H5.out.res 0
          have f1 := block_free H5.out.res 1
          go_wp2
          (try simp only [Exit.inBlock, Exit.then])
          refine bodyPost_ret (v := .tuple #[.agg #[.slice none 0 0, .int .i64 0], .int .i64 60]) ?_ rfl ⟨none, 0, ⟨[], 0⟩, 60, rfl, ?_⟩
          · rw [results_cell_tmp rfl]
            go_simp
          · obtain ⟨r1, r2⟩ := H5.out.ends HZS.out (.slice none 0 0) (.int .i64 0)
            exact ⟨⟨by simp [maxLen], fun x hx => (by cases hx), none, 0, rfl, .inl rfl⟩, .inr ⟨HOK.out, rfl, rfl⟩, r2, World.ownsRow_nil _ _ _ _, fun k hk => by simp [Value.ownBlock] at hk⟩
      · have hE : endS R = false := by
          unfold endS
          rw [beq_eq_false_iff_ne]
          exact he
        rw [hE] at HEND
        have HOK := Lib.hid (HNO.out (fun h => he h.2))
        have q0 : wr.cell? ⟨w.heap.size, 0, none⟩ = some (.slice none 0 0) := by rw [block_cell HI.out.res]; rfl
        have q1 : wr.cell? ⟨w.heap.size, 1, none⟩ = some (.int .i64 0) := by rw [block_cell HI.out.res]; rfl
        have f0 := block_free HI.out.res 0
        have f1 := block_free HI.out.res 1
        clear hE he
        go_wp2_with fail
        refine HEND.out.mono ?_
        rintro e w5 ⟨rfl, rfl⟩
        go_wp2
        (try simp only [Exit.inBlock, Exit.then])
        refine bodyPost_ret (v := .tuple #[.agg #[.slice none 0 0, .int .i64 0], .int .i64 60]) ?_ rfl ⟨none, 0, ⟨[], 0⟩, 60, rfl, ?_⟩
        · rw [results_cell_tmp rfl]
          go_simp
        · obtain ⟨r1, r2⟩ := HI.out.ends HZS.out (.slice none 0 0) (.int .i64 0)
          exact ⟨⟨by simp [maxLen], fun x hx => (by cases hx), none, 0, rfl, .inl rfl⟩, .inr ⟨HOK.out, rfl, rfl⟩, r2, World.ownsRow_nil _ _ _ _, fun k hk => by simp [Value.ownBlock] at hk⟩

theorem decode_any (s : ByteArray) (hs : s.size ≤ 140737488351232) (w : World) :
    Calls Try.prog 32 #[.string s] w fun e w' => ∃ a c p E, e = .returned (.tuple #[p.val' a c, .int .i64 (E : Nat)]) ∧ ReadG w' (.slice a p.steps.length c) p.steps ∧ DecEnd s p E ∧ Below w.heap.size w w' :=
  (decode_own s hs w).mono fun e w' ⟨a, c, p, E, h1, h2, h3, h4, _⟩ => ⟨a, c, p, E, h1, h2, h3, h4⟩

end Go.Proofs.Ytlkfpeefjpmmfaa

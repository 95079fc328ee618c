/- Layer 3: the contract of Append. -/
import Derived.Test.YtlgpkbcefaldoaaDoorW03e
namespace Go.Proofs.YtlgpkbcefaldoaaDoor
open Go.RowKit Go.Maps Go.WideMaps
set_option linter.unusedVariables false

theorem Grew.trans {F : Nat → Prop} {a b c : World} (h1 : a.heap.size ≤ b.heap.size) (h2 : b.heap.size ≤ c.heap.size) : ∀ k, Grew (Grew F a b) b c k → Grew F a c k := by
  rintro k ((h | h) | h)
  · exact .inl h
  · exact .inr ⟨h.1, by omega⟩
  · exact .inr ⟨by omega, h.2⟩

/-- An empty file is laid into the map: some world in which the box has it. -/
theorem BoxIn.newFile {w w2 wA : World} {p m : Nat} {es : List (Key × EntM)} {S : Bx} {F : Nat → Prop} (h : BoxIn w p m es S F) (s : ByteArray) (hs : s.size ≤ maxLen) (hn : nameOK s.data.toList = true) (hf : findK s.data.toList es = none) (hl : es.length < maxLen)
    (h2 : w2 = w.alloc (.cells #[.slice none 0 0, .int .i64 0] 63)) (hA : Below w2.heap.size w2 wA) :
    wA.cell? ⟨p, 0, none⟩ = some (.map (some m)) ∧ ∃ wB, (Instr.mapUpdate 48 (.map (some m)) (.string s) (.pointer (some ⟨w.heap.size, 0, none⟩))).run Tryd.prog wA = .ok () wB ∧
      BoxIn wB p m (insK (s.data.toList, ⟨⟨[], 0⟩, w.heap.size, .slice none 0 0⟩) es) ⟨insK (s.data.toList, ⟨[], 0⟩) S.files, S.fuel, S.down⟩ (Grew F w wB) ∧ Turn F w wB ∧ wB.cell? ⟨w.heap.size, 0, none⟩ = some (.slice none 0 0) := by
  have hb2 : Below w.heap.size w w2 := by rw [h2]; exact (Below.refl _ w).alloc (Nat.le_refl _) _
  have hs2 : w2.heap.size = w.heap.size + 1 := by rw [h2]; simp
  have hbA : Below w.heap.size w wA := hb2.trans (hA.mono (by omega))
  have hBA := h.below hbA
  have hnew : wA.heap[w.heap.size]? = some (.cells #[.slice none 0 0, .int .i64 0] 63 (0, 0)) := by
    rw [hA.block _ (by omega), h2]; exact heap_alloc_new _ _
  refine ⟨hBA.head.c0, ?_⟩
  obtain ⟨wB, hrun, ho, hg⟩ := World.ownsMap.update hBA.map (string_keyed Tryd.underlying9) Tryd.underlying48 hl (keyOf_string_mk Tryd.underlying9 hs) (val := .pointer (some ⟨w.heap.size, 0, none⟩)) (d := .lit (.int .i64 (w.heap.size : Int))) (ps := []) rfl
  have t : Turn (fun k => k = m) wA wB := (Turn.refl (fun k => k = m) wA).grown hg (fun k hk => by injection hk with hk; exact .inl hk.symm)
  have hmn : w.heap.size ≠ m := by
    have := h.lm; omega
  have hBs := t.size
  have hAs := hA.size
  have tB : Turn F w wB := (Turn.of_below F hbA).trans t (fun i hi => by subst hi; exact .inl h.fm)
  have he : FileAt wB (Grew F w wB) ⟨⟨[], 0⟩, w.heap.size, .slice none 0 0⟩ :=
    ⟨t.keeps hnew hmn, World.ownsRow_nil _ _ _ _, Nat.le_refl _, .inr ⟨Nat.le_refl _, by show w.heap.size < _; omega⟩, fun k hk => by simp [Value.ownBlock] at hk⟩
  have hi := hBA.ins hf hn (e := ⟨⟨[], 0⟩, w.heap.size, .slice none 0 0⟩) he ho t (fun k hk => .inl hk) (fun x hx e1 => by have := (h.mem.each x hx).1.lt; simp only at e1; omega) (fun x hx k hk => by simp [Value.ownBlock] at hk)
  exact ⟨wB, hrun, hi, tB, by rw [block_cell (t.keeps hnew hmn)]; rfl⟩

/-- append onto a file's bytes: what comes back lies where the old ones lay, or it is new. -/
theorem run_addStr {w : World} (ty : TypeId) {v : Value} {l : List UInt8} (h : w.ownsRow 0 5 1 v l.length (l.map bv)) (d : ByteArray) (hz : l.length + d.size ≤ 140737488355328) :
    ∃ v' w', (Builtin.append_ #[61, 9] ty #[v, .string d]).run Tryd.prog w = .ok v' w' ∧ w'.ownsRow 0 5 1 v' (l.length + d.data.toList.length) ((l ++ d.data.toList).map bv) ∧ w.grownBy w' v.ownBlock ∧ ∀ k, v'.ownBlock = some k → v.ownBlock = some k ∨ w.heap.size ≤ k := by
  obtain ⟨i0, hi, hz0, hz1, hz2⟩ := info_parts infoU8
  have hd : d.data.toList.length = d.size := by simp
  have hc : l.map bv ++ Lib.strCells d = (l ++ d.data.toList).map bv := by rw [List.map_append]; rfl
  obtain ⟨v', w', hr, ho, hg, hnil⟩ := Lib.run_append_own_string (P := Tryd.prog) w 0 61 9 ty 5 i0 Tryd.underlying61 Tryd.underlying9 hi hz0 hz1 hz2 v l.length (l.map bv) h d (by unfold maxLen; omega) hz (Nat.zero_le _)
  rw [hc] at ho
  refine ⟨v', w', hr, by rw [hd]; exact ho, hg, fun k hk => ?_⟩
  rcases h.2 with ⟨rfl, h0⟩ | ⟨g, cap, cur, rfl, _, hgg, hle, hcm, hcs, htake⟩
  · -- nil: as from the world's end on
    obtain ⟨v2, w2, hr2, ho2, _⟩ := Lib.run_append_own_string (P := Tryd.prog) w w.heap.size 61 9 ty 5 i0 Tryd.underlying61 Tryd.underlying9 hi hz0 hz1 hz2 (.slice none 0 0) 0 [] (World.ownsRow_nil _ _ _ _) d (by unfold maxLen; omega) (by omega) (Nat.le_refl _)
    rw [hr] at hr2
    injection hr2 with e1 e2
    subst e1
    exact .inr (ho2.lt k hk).1
  · by_cases hroom : l.length + d.size ≤ cap
    · have hr2 := Lib.run_append_room_string (P := Tryd.prog) w 61 9 ty 5 i0 Tryd.underlying61 Tryd.underlying9 hi hz1 g l.length cap cur hgg d hroom (by omega)
      rw [hr] at hr2
      injection hr2 with e1 e2
      subst e1
      exact .inl hk
    · have hr2 := Lib.run_append_grow_string (P := Tryd.prog) w 61 9 ty 5 i0 _ Tryd.underlying61 Tryd.underlying9 hi hz0 ⟨g, 0, none⟩ l.length cap (l.map bv) (by rw [hz1]; simp) (h.cells (g := g) rfl) d (by omega) (by omega) (by rw [hz2]; exact growslice_fits (by omega) (by omega))
      rw [hr] at hr2
      injection hr2 with e1 e2
      subst e1
      right
      simp [Value.ownBlock] at hk
      omega

theorem ownsRow_slice {w : World} {base : Nat} {e : TypeId} {size : Nat} {v : Value} {n : Nat} {xs : List Value} (h : w.ownsRow base e size v n xs) : ∃ a c, v = .slice a n c := by
  rcases h.2 with ⟨h1, h2⟩ | ⟨g, cap, cur, h1, _⟩
  · exact ⟨none, 0, by rw [h1, h2]⟩
  · exact ⟨_, _, h1⟩

theorem wpList_addStr (w : World) {ops : Array Oper} {rest : List Oper} {o : Oper} {a : Act} {Q : Exit → Act → World → Prop} (hgd : o.guard = none) (sl x : Operand)
    (ho : o.op = .call { callee := .builtin .append, args := #[sl, x], argTypes := #[61, 9] }) {v : Value} {l : List UInt8} (hs : a.eval sl = v) (h : w.ownsRow 0 5 1 v l.length (l.map bv)) (d : ByteArray) (hx : a.eval x = .string d) (hz : l.length + d.size ≤ 140737488355328)
    (hK : ∀ v' w', w'.ownsRow 0 5 1 v' (l.length + d.data.toList.length) ((l ++ d.data.toList).map bv) → w.grownBy w' v.ownBlock → (∀ k, v'.ownBlock = some k → v.ownBlock = some k ∨ w.heap.size ≤ k) → wpList Tryd.prog ops Q rest (a.put o.dst v') w') : wpList Tryd.prog ops Q (o :: rest) a w := by
  refine wpList_plain hgd fun K hK' => ?_
  obtain ⟨v', w', hr, h1, h2, h3⟩ := run_addStr o.type h d hz
  unfold Oper.wp execOp
  simp only [ho, resolve, invoke, builtin, Sem.run_bind, Sem.run_pure, Result.andThen_ok, List.map_toArray, List.map_cons, List.map_nil, hs, hx, hr]
  exact hK' _ _ (hK v' w' h1 h2 h3)

/-- What is stored behind the append, all of it. -/
theorem BoxIn.laid {F G : Nat → Prop} {w wB w3 : World} {p m : Nat} {es : List (Key × EntM)} {S : Bx} (h : BoxIn wB p m es S G) (t : Turn F w wB) (hG : ∀ k, G k → Grew F w wB k) {n : Key} {e : EntM} (hf : findK n es = some e) {v : Value} {d : List UInt8}
    (ho : w3.ownsRow 0 5 1 v (e.file.bytes.length + d.length) ((e.file.bytes ++ d).map bv)) (hg : wB.grownBy w3 e.row.ownBlock) (hv : ∀ k, v.ownBlock = some k → e.row.ownBlock = some k ∨ wB.heap.size ≤ k) :
    BoxAt (w3.setCell ⟨e.blk, 0, none⟩ v) p ⟨updK n (addF d e.file) S.files, S.fuel, S.down⟩ (Grew F w (w3.setCell ⟨e.blk, 0, none⟩ v)) ∧ Turn F w (w3.setCell ⟨e.blk, 0, none⟩ v) := by
  obtain ⟨h1, h2⟩ := h.added hf ho hg hv
  refine ⟨h1.mono fun k hk => ?_, t.trans h2 fun k hk => ?_⟩
  · rcases hk with hk | hk
    · rcases hG k hk with h3 | h3
      · exact .inl h3
      · exact .inr ⟨h3.1, by have := h2.size; omega⟩
    · exact .inr ⟨by have := t.size; omega, hk.2⟩
  · rcases hG k hk with h3 | h3
    · exact .inl h3
    · exact .inr h3.1

set_option maxHeartbeats 1000000 in
set_option maxRecDepth 100000 in
theorem append_new {w : World} {p m : Nat} {es : List (Key × EntM)} {S : Bx} {F : Nat → Prop} (h : BoxIn w p m es S F) (hd : S.down = false) (s d : ByteArray) (hn : nameOK s.data.toList = true) (hf : findK s.data.toList es = none) (h0 : S.fuel ≠ 0)
    (hl : es.length < 4611686018427387904) (hz : d.size ≤ 140737488355328) :
    Calls Tryd.prog 15 #[.pointer (some ⟨p, 0, none⟩), .string s, .string d] w fun r w' => r = .returned (.int .i64 0) ∧ BoxAt w' p ⟨insK (s.data.toList, ⟨d.data.toList, 0⟩) S.files, S.burnt.fuel, S.burnt.down⟩ (Grew F w w') ∧ Turn F w w' := by
  have hsz : s.size ≤ 32 := by
    have := nameOK_eq s
    rw [hn] at this
    simpa using (of_decide_eq_true this.symm).2
  have hdn := isDown_any (d := false) (by have := h.head; rw [hd] at this; exact this)
  have hnm := isName_any s (by unfold maxLen; omega)
  rw [hn] at hnm
  have hb := burn_ok h h0
  have HN := Lib.hid hn
  have HF := Lib.hid hf
  clear hd hn hf h0
  go_enter Tryd.func15, Tryd.ntmps15
  go_wp2_with fail
  refine hdn.mono ?_
  rintro r w1 ⟨rfl, rfl⟩
  go_wp2_with fail
  refine (hnm w).mono ?_
  rintro r w1 ⟨rfl, rfl⟩
  go_wp2_with fail
  refine hb.mono ?_
  rintro r w1 ⟨rfl, h1, t1⟩
  have hlk := h1.map.look s (by unfold maxLen; omega)
  rw [HF.out] at hlk
  have c0 := h1.head.c0
  have T1 := Lib.hid t1
  have H1 := Lib.hid h1
  clear h1 t1 hb hdn hnm
  go_upto_region 10 with (fail)
  generalize hw2 : w1.alloc (.cells #[.slice none 0 0, .int .i64 0] 63) = w2 at *
  have c2 : w2.cell? ⟨p, 0, none⟩ = some (.map (some m)) := by
    rw [← hw2, World.cell?_of_block (w := w1) (Below.heap_alloc _ _ _ H1.out.head.lt)]; exact c0
  have HW := Lib.hid hw2
  clear c0 hlk hw2
  have hfs : S.burnt.files = S.files := by unfold Bx.burnt; rfl
  have HS := Lib.hid hfs
  clear hfs
  go_region_with (go_at_call 18; refine (strings_clone _ _ (by omega)).mono ?_; rintro e wA ⟨rfl, hA⟩; obtain ⟨cA, wB, hrun, hB, tB, cB⟩ := H1.out.newFile s (by unfold maxLen; omega) HN.out HF.out (by unfold maxLen; omega) HW.out.symm (below_undrew hA))
  all_goals
    have fB : wB.frozen? ⟨w1.heap.size, 0, none⟩ = false := block_free (hB.mem.each _ ((insK_perm _ _).mem_iff.2 (List.mem_cons_self))).1.head 0
    have hdB : HeadAt wB p m S.burnt.fuel S.burnt.down := hB.head
    have LB := Lib.hid (show w1.heap.size < wB.heap.size from (hB.mem.each _ ((insK_perm _ _).mem_iff.2 (List.mem_cons_self))).1.lt)
    have HB := Lib.hid hB
    have TB := Lib.hid tB
    clear hB tB hA cA hrun hdB c2
    have hnr : wB.ownsRow 0 5 1 (.slice none 0 0) ([] : List UInt8).length (([] : List UInt8).map bv) := World.ownsRow_nil _ _ _ _
    have hz2 : ([] : List UInt8).length + d.size ≤ 140737488355328 := by simpa using hz
    go_wp2_with (at_builtin; refine wpList_addStr _ rfl (.tmp 37) (.tmp 38) rfl rfl hnr d rfl hz2 ?_)
    intro v' w3 ho hg hv
    have c3 : w3.cell? ⟨w1.heap.size, 0, none⟩ = some (.slice none 0 0) := hg.cell cB (by simp [Value.ownBlock])
    have f3 : w3.frozen? ⟨w1.heap.size, 0, none⟩ = false := (World.frozen?_of_block (w := wB) (hg.block _ LB.out (by simp [Value.ownBlock]))).trans fB
    have HL := Lib.hid (HB.out.laid (T1.out.toF h.fp |>.trans TB.out (fun k hk => .inl hk)) (fun k hk => by
      rcases hk with hk | hk
      · exact .inl hk
      · exact .inr ⟨by have := T1.out.size; omega, hk.2⟩) (n := s.data.toList) (e := ⟨⟨[], 0⟩, w1.heap.size, .slice none 0 0⟩) (by rw [findK_ins HF.out, if_pos rfl]) (d := d.data.toList) (v := v') (by simpa using ho) hg hv)
    obtain ⟨a3, k3, rfl⟩ := ownsRow_slice ho
    clear ho hg hv cB fB
    go_wp2
    go_ret
    have hL := HL.out
    rw [HS.out] at hL
    have hup : updK s.data.toList (addF d.data.toList ⟨[], 0⟩) (insK (s.data.toList, (⟨[], 0⟩ : FileS)) S.files) = insK (s.data.toList, ⟨d.data.toList, 0⟩) S.files := upd_ins (by rw [h.files, findK_map, HF.out]; rfl)
    rw [hup] at hL
    exact ⟨rfl, hL.1, hL.2⟩

set_option maxHeartbeats 1000000 in
set_option maxRecDepth 100000 in
theorem append_old {w : World} {p m : Nat} {es : List (Key × EntM)} {S : Bx} {F : Nat → Prop} (h : BoxIn w p m es S F) (hd : S.down = false) (s d : ByteArray) (hn : nameOK s.data.toList = true) {e : EntM} (hf : findK s.data.toList es = some e) (h0 : S.fuel ≠ 0)
    (hz : e.file.bytes.length + d.size ≤ 140737488355328) :
    Calls Tryd.prog 15 #[.pointer (some ⟨p, 0, none⟩), .string s, .string d] w fun r w' => r = .returned (.int .i64 0) ∧ BoxAt w' p ⟨updK s.data.toList (addF d.data.toList e.file) S.files, S.burnt.fuel, S.burnt.down⟩ (Grew F w w') ∧ Turn F w w' := by
  have hsz : s.size ≤ 32 := by
    have := nameOK_eq s
    rw [hn] at this
    simpa using (of_decide_eq_true this.symm).2
  have hdn := isDown_any (d := false) (by have := h.head; rw [hd] at this; exact this)
  have hnm := isName_any s (by unfold maxLen; omega)
  rw [hn] at hnm
  have hb := burn_ok h h0
  have HF := Lib.hid hf
  have hfs : S.burnt.files = S.files := by unfold Bx.burnt; rfl
  have HS := Lib.hid hfs
  clear hd hn hf h0 hfs
  go_enter Tryd.func15, Tryd.ntmps15
  go_wp2_with fail
  refine hdn.mono ?_
  rintro r w1 ⟨rfl, rfl⟩
  go_wp2_with fail
  refine (hnm w).mono ?_
  rintro r w1 ⟨rfl, rfl⟩
  go_wp2_with fail
  refine hb.mono ?_
  rintro r w1 ⟨rfl, h1, t1⟩
  have hlk := h1.map.look s (by unfold maxLen; omega)
  rw [HF.out] at hlk
  have c0 := h1.head.c0
  obtain ⟨hfa, _⟩ := h1.mem.each _ (findK_mem HF.out)
  have cB : w1.cell? ⟨e.blk, 0, none⟩ = some e.row := by rw [block_cell hfa.head]; rfl
  have fB := block_free hfa.head 0
  have LB := Lib.hid hfa.lt
  have hrow := hfa.row
  have HNR := Lib.hid (show ∀ k, e.row.ownBlock = some k → e.blk ≠ k from fun k hk => hfa.blkNotRow hfa hk)
  have T1 := Lib.hid t1
  have H1 := Lib.hid h1
  clear h1 t1 hb hdn hnm hfa
  go_wp2_with (at_builtin; refine wpList_addStr _ rfl (.tmp 37) (.tmp 38) rfl rfl hrow d rfl hz ?_)
  intro v' w3 ho hg hv
  have hne : some e.blk ≠ e.row.ownBlock := fun h => HNR.out _ h.symm rfl
  have c3 : w3.cell? ⟨e.blk, 0, none⟩ = some e.row := hg.cell cB hne
  have f3 : w3.frozen? ⟨e.blk, 0, none⟩ = false := (World.frozen?_of_block (w := w1) (hg.block _ LB.out hne)).trans fB
  have HL := Lib.hid (H1.out.laid (T1.out.toF h.fp) (fun k hk => .inl hk) HF.out (d := d.data.toList) (v := v') (by simpa using ho) hg hv)
  obtain ⟨a3, k3, rfl⟩ := ownsRow_slice ho
  clear ho hg hv cB fB hrow hlk c0 hne
  go_wp2
  go_ret
  have hL := HL.out
  rw [HS.out] at hL
  exact ⟨rfl, hL.1, hL.2⟩

theorem findK_len {n : Key} {f : FileS} {l : List (Key × FileS)} (h : findK n l = some f) : f.bytes.length ≤ weigh l := by
  induction l with
  | nil => cases h
  | cons y r ih =>
    rw [findK_cons] at h
    unfold weigh
    rw [List.map_cons, List.sum_cons]
    split at h
    · injection h with h
      subst h
      omega
    · have := ih h
      unfold weigh at this
      omega
theorem len_weigh (l : List (Key × FileS)) : l.length ≤ weigh l := by
  induction l with
  | nil => simp [weigh]
  | cons y r ih =>
    unfold weigh at *
    rw [List.map_cons, List.sum_cons, List.length_cons]
    omega

set_option maxHeartbeats 400000 in
set_option maxRecDepth 100000 in
theorem box_append {w : World} {p : Nat} {S : Bx} {F : Nat → Prop} (h : BoxAt w p S F) (s d : ByteArray) (hs : s.size ≤ maxLen) (hz : weigh S.files + d.size ≤ 140737488355328) :
    Calls Tryd.prog 15 #[.pointer (some ⟨p, 0, none⟩), .string s, .string d] w fun r w' => r = .returned (.int .i64 (S.append s.data.toList d.data.toList).2) ∧ BoxAt w' p (S.append s.data.toList d.data.toList).1 (Grew F w w') ∧ Turn F w w' := by
  obtain ⟨m, es, h⟩ := h
  have hle : es.length ≤ weigh S.files := by
    have := len_weigh S.files
    rwa [h.files, mapK_len, ← h.files] at this
  by_cases hd : S.down = true
  · rw [Bx.append_down hd]
    have hdn := isDown_any (d := true) (by have := h.head; rw [hd] at this; exact this)
    have H := Lib.hid h
    clear hd h
    go_enter Tryd.func15, Tryd.ntmps15
    go_wp2_with fail
    refine hdn.mono ?_
    rintro r w1 ⟨rfl, rfl⟩
    go_wp2
    go_ret
    exact ⟨rfl, BoxAt.mono ⟨m, es, H.out⟩ (fun k hk => .inl hk), Turn.refl _ _⟩
  · have hd' : S.down = false := by simpa using hd
    have hdn := isDown_any (d := false) (by have := h.head; rw [hd'] at this; exact this)
    by_cases hn : nameOK s.data.toList = true
    · rw [Bx.append_ok hd' hn]
      by_cases h0 : S.fuel = 0
      · rw [Bx.change_no h0]
        have hnm := isName_any s hs
        rw [hn] at hnm
        have hb := burn_no h h0
        have hfp := h.fp
        clear hd hd' hn h0 h
        go_enter Tryd.func15, Tryd.ntmps15
        go_wp2_with fail
        refine hdn.mono ?_
        rintro r w1 ⟨rfl, rfl⟩
        go_wp2_with fail
        refine (hnm w).mono ?_
        rintro r w1 ⟨rfl, rfl⟩
        go_wp2_with fail
        refine hb.mono ?_
        rintro r w1 ⟨rfl, h1, t1⟩
        go_wp2
        go_ret
        exact ⟨rfl, BoxAt.mono ⟨m, es, h1⟩ (fun k hk => .inl hk), t1.toF hfp⟩
      · rw [Bx.change_yes h0]
        cases hf : findK s.data.toList es with
        | none =>
          have e : addK s.data.toList d.data.toList S.files = insK (s.data.toList, ⟨d.data.toList, 0⟩) S.files := by unfold addK; rw [h.files, findK_map, hf]; rfl
          rw [e]
          exact append_new h hd' s d hn hf h0 (by omega) (by omega)
        | some e0 =>
          have hf2 : findK s.data.toList S.files = some e0.file := by rw [h.files, findK_map, hf]; rfl
          have e : addK s.data.toList d.data.toList S.files = updK s.data.toList (addF d.data.toList e0.file) S.files := by unfold addK; rw [hf2]
          rw [e]
          have := findK_len hf2
          exact append_old h hd' s d hn hf h0 (by omega)
    · have hn' : nameOK s.data.toList = false := by simpa using hn
      rw [Bx.append_bad hd' hn']
      have hnm := isName_any s hs
      rw [hn'] at hnm
      have H := Lib.hid h
      clear hd hd' hn hn' h
      go_enter Tryd.func15, Tryd.ntmps15
      go_wp2_with fail
      refine hdn.mono ?_
      rintro r w1 ⟨rfl, rfl⟩
      go_wp2_with fail
      refine (hnm w).mono ?_
      rintro r w1 ⟨rfl, rfl⟩
      go_wp2
      go_ret
      exact ⟨rfl, BoxAt.mono ⟨m, es, H.out⟩ (fun k hk => .inl hk), Turn.refl _ _⟩

end Go.Proofs.YtlgpkbcefaldoaaDoor

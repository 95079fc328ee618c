/- Layer 3: what changes of a file, of the map, make of a box; contracts of Sync, Delete. -/
import Derived.Test.YtlgpkbcefaldoaaDoorW03c
namespace Go.Proofs.YtlgpkbcefaldoaaDoor
open Go.RowKit Go.Maps Go.WideMaps
set_option linter.unusedVariables false

/-- F, and what is new from w to w'. -/
def Grew (F : Nat → Prop) (w w' : World) (k : Nat) : Prop := F k ∨ (w.heap.size ≤ k ∧ k < w'.heap.size)
theorem Grew.old {F : Nat → Prop} {w w' : World} (k : Nat) (h : F k) : Grew F w w' k := .inl h

section
variable {F G : Nat → Prop} {w w' : World} {p m : Nat} {es : List (Key × EntM)} {S : Bx}

theorem FileAt.lt {e : EntM} (h : FileAt w F e) : e.blk < w.heap.size := block_lt h.head
theorem FileAt.rowLt {e : EntM} (h : FileAt w F e) : ∀ k, e.row.ownBlock = some k → k < w.heap.size := fun k hk => (h.row.lt k hk).2
/-- A row's block is no file's. -/
theorem FileAt.rowAt {e : EntM} (h : FileAt w F e) {k : Nat} (hk : e.row.ownBlock = some k) : ∃ cur, w.heap[k]? = some (.cells cur 5 (0, 0)) := by
  rcases h.row.2 with ⟨h1, _⟩ | ⟨g, cap, cur, h1, _, h2, _⟩
  · rw [h1] at hk; simp [Value.ownBlock] at hk
  · rw [h1] at hk
    simp [Value.ownBlock] at hk
    subst hk
    exact ⟨cur, h2⟩
theorem FileAt.blkNotRow {e f : EntM} (h : FileAt w F e) (h' : FileAt w F f) {k : Nat} (hk : f.row.ownBlock = some k) : e.blk ≠ k := by
  intro he
  obtain ⟨cur, hc⟩ := h'.rowAt hk
  have := h.head
  rw [he, hc] at this
  simp at this
theorem BoxIn.mapNot (h : BoxIn w p m es S F) {k : Nat} {c : Array Value} {t : TypeId} {f : Nat × Nat} (hk : w.heap[k]? = some (.cells c t f)) : m ≠ k := by
  rintro rfl
  obtain ⟨a, b, hb, _⟩ := h.map
  rw [hb] at hk; cases hk
theorem FileAt.notMap {e : EntM} (h : FileAt w F e) (hm : MapAt w m es) : e.blk ≠ m ∧ ∀ k, e.row.ownBlock = some k → k ≠ m := by
  obtain ⟨a, b, hb, _⟩ := hm
  refine ⟨fun he => ?_, fun k hk he => ?_⟩
  · have := h.head
    rw [he, hb] at this; cases this
  · subst he
    obtain ⟨cur, hc⟩ := h.rowAt hk
    rw [hb] at hc; cases hc
theorem BoxIn.headNotMap (h : BoxIn w p m es S F) : p ≠ m := fun e => h.pm e.symm

/-- One file is written. -/
theorem BoxIn.upd (h : BoxIn w p m es S F) {n : Key} {e : EntM} (hf : findK n es = some e) {e' : EntM} (hb : e'.blk = e.blk) (he : FileAt w' G e') (t : Turn (fun k => k = e.blk ∨ e.row.ownBlock = some k) w w') (hF : ∀ k, F k → G k)
    (hrow : ∀ k, e'.row.ownBlock = some k → e.row.ownBlock = some k ∨ w.heap.size ≤ k) : BoxIn w' p m (updK n e' es) ⟨updK n e'.file S.files, S.fuel, S.down⟩ G := by
  obtain ⟨hfa, hnm⟩ := h.mem.each _ (findK_mem hf)
  have hfa : FileAt w F e := hfa
  have hnh := hfa.notHead h.head
  have hnm' := hfa.notMap h.map
  refine ⟨t.keeps h.head ?_, ?_, by rw [h.files, updK_map], ⟨fun x hx => ?_, ?_⟩, hF _ h.fp, hF _ h.fm, h.lo, h.hi⟩
  · rintro (e1 | e1)
    · exact hnh.1 e1.symm
    · exact hnh.2 _ e1 rfl
  · unfold MapAt
    rw [updK_len, updK_map, hb, updK_same (by rw [findK_map, hf]; rfl)]
    refine t.map h.map ?_
    rintro (e1 | e1)
    · exact hnm'.1 e1.symm
    · exact hnm'.2 _ e1 rfl
  · rcases mem_upd' (R := Apart) Apart.symm hf h.mem.apart hx with rfl | ⟨hm, ha⟩
    · exact ⟨he, hnm⟩
    · obtain ⟨hx1, hx2⟩ := h.mem.each x hm
      refine ⟨⟨t.keeps hx1.head ?_, t.row hx1.row (fun k hk => ?_), hx1.dur, hF _ hx1.fblk, fun k hk => hF _ (hx1.frow k hk)⟩, hx2⟩
      · rintro (e1 | e1)
        · exact ha.1 e1.symm
        · exact hx1.blkNotRow hfa e1 rfl
      · rintro (e1 | e1)
        · exact hfa.blkNotRow hx1 hk e1.symm
        · exact ha.2 k e1 hk
  · refine pairwise_upd (R := Apart) Apart.symm hf h.mem.apart (fun q hq ha => ⟨by show e'.blk ≠ _; rw [hb]; exact ha.1, fun k hk hqk => ?_⟩)
    rcases hrow k hk with h1 | h1
    · exact ha.2 k h1 hqk
    · have := (h.mem.each q hq).1.rowLt k hqk
      omega

/-- A file is laid. -/
theorem BoxIn.ins (h : BoxIn w p m es S F) {n : Key} (hf : findK n es = none) (hn : nameOK n = true) {e : EntM} (he : FileAt w' G e) (hm : w'.ownsMap Tryd.prog 9 ptrR m (es.length + 1) ((toD (mapK EntM.blk es)).put (.string n) (.lit (.int .i64 (e.blk : Int)))))
    (t : Turn (fun k => k = m) w w') (hF : ∀ k, F k → G k) (h1 : ∀ x ∈ es, e.blk ≠ x.2.blk) (h2 : ∀ x ∈ es, ∀ k, e.row.ownBlock = some k → x.2.row.ownBlock ≠ some k) : BoxIn w' p m (insK (n, e) es) ⟨insK (n, e.file) S.files, S.fuel, S.down⟩ G := by
  refine ⟨t.keeps h.head h.headNotMap, ?_, by rw [h.files, insK_map], ⟨fun x hx => ?_, ?_⟩, hF _ h.fp, hF _ h.fm, h.lo, h.hi⟩
  · unfold MapAt
    rw [insK_len, insK_map, ← toD_ins (by rw [findK_map, hf]; rfl)]
    exact hm
  · rcases List.mem_cons.1 ((insK_perm (n, e) es).mem_iff.1 hx) with rfl | hx
    · exact ⟨he, hn⟩
    · obtain ⟨hx1, hx2⟩ := h.mem.each x hx
      have hnm := hx1.notMap h.map
      exact ⟨⟨t.keeps hx1.head hnm.1, t.row hx1.row (fun k hk => hnm.2 k hk), hx1.dur, hF _ hx1.fblk, fun k hk => hF _ (hx1.frow k hk)⟩, hx2⟩
  · refine ((insK_perm (n, e) es).pairwise_iff (fun {a b} => Apart.symm)).2 (List.pairwise_cons.2 ⟨fun q hq => ?_, h.mem.apart⟩)
    exact ⟨h1 q hq, h2 q hq⟩

theorem ownsMap_tight {P : Program} {k : TypeId} {R : Value → Option (DU × List MemPlace)} {b n : Nat} {D : DU} (h : w.ownsMap P k R b n D) : w.ownsMap P k R b (Maps.size D) D := by
  obtain ⟨es, clock, hb, F, hs, rfl⟩ := h
  refine ⟨es, clock, hb, F, ?_, rfl⟩
  show _ ≤ List.length _
  rw [length_sorted]
  simp

/-- A file is struck. -/
theorem BoxIn.del (h : BoxIn w p m es S F) {n : Key} {k0 : Nat} (hm : w'.ownsMap Tryd.prog 9 ptrR m k0 ((toD (mapK EntM.blk es)).del (.string n))) (t : Turn (fun k => k = m) w w') : BoxIn w' p m (dropK n es) ⟨dropK n S.files, S.fuel, S.down⟩ F := by
  refine ⟨t.keeps h.head h.headNotMap, ?_, by rw [h.files, dropK_map], ⟨fun x hx => ?_, h.mem.apart.filter _⟩, h.fp, h.fm, h.lo, h.hi⟩
  · rw [toD_del, ← dropK_map] at hm
    have := ownsMap_tight hm
    rw [toD_size, mapK_len] at this
    exact this
  · obtain ⟨hx1, hx2⟩ := h.mem.each x (dropK_sub hx).1
    have hnm := hx1.notMap h.map
    exact ⟨⟨t.keeps hx1.head hnm.1, t.row hx1.row (fun k hk => hnm.2 k hk), hx1.dur, hx1.fblk, hx1.frow⟩, hx2⟩

end

/-- The store of a file's number of durable bytes. -/
theorem BoxIn.firm {F : Nat → Prop} {w : World} {p m : Nat} {es : List (Key × EntM)} {S : Bx} (h : BoxIn w p m es S F) {n : Key} {e : EntM} (hf : findK n es = some e) :
    BoxAt (w.setCell ⟨e.blk, 1, none⟩ (.int .i64 (e.file.bytes.length : Int))) p ⟨updK n (firmF e.file) S.files, S.fuel, S.down⟩ F ∧ Turn F w (w.setCell ⟨e.blk, 1, none⟩ (.int .i64 (e.file.bytes.length : Int))) := by
  obtain ⟨hfa, hnm⟩ := h.mem.each _ (findK_mem hf)
  have hfa : FileAt w F e := hfa
  have t : Turn (fun k => k = e.blk) w (w.setCell ⟨e.blk, 1, none⟩ (.int .i64 (e.file.bytes.length : Int))) := (Turn.refl (fun k => k = e.blk) w).setCell (p := ⟨e.blk, 1, none⟩) (.inl rfl) _
  have he : FileAt (w.setCell ⟨e.blk, 1, none⟩ (.int .i64 (e.file.bytes.length : Int))) F ⟨firmF e.file, e.blk, e.row⟩ :=
    ⟨block_set hfa.head 1 _, t.row hfa.row (fun k hk e1 => hfa.blkNotRow hfa hk e1.symm), Nat.le_refl _, hfa.fblk, hfa.frow⟩
  refine ⟨⟨m, updK n ⟨firmF e.file, e.blk, e.row⟩ es, h.upd hf rfl he (t.mono (fun i hi => .inl (.inl hi))) (fun _ h => h) (fun k hk => .inl hk)⟩, t.mono (fun i hi => by subst hi; exact .inl hfa.fblk)⟩

set_option maxHeartbeats 400000 in
set_option maxRecDepth 100000 in
theorem box_sync {w : World} {p : Nat} {S : Bx} {F : Nat → Prop} (h : BoxAt w p S F) (s : ByteArray) (hs : s.size ≤ maxLen) :
    Calls Tryd.prog 23 #[.pointer (some ⟨p, 0, none⟩), .string s] w fun r w' => r = .returned (.int .i64 (S.sync s.data.toList).2) ∧ BoxAt w' p (S.sync s.data.toList).1 F ∧ Turn F w w' := by
  obtain ⟨m, es, h⟩ := h
  by_cases hd : S.down = true
  · rw [Bx.sync_down hd]
    have hc := ftc_down h hd s
    have H := Lib.hid h
    clear hd h
    go_enter Tryd.func23, Tryd.ntmps23
    go_wp2_with fail
    refine hc.mono ?_
    rintro e w' ⟨rfl, rfl⟩
    go_wp2
    go_ret
    exact ⟨rfl, ⟨m, es, H.out⟩, Turn.refl _ _⟩
  · have hd' : S.down = false := by simpa using hd
    cases hf : findK s.data.toList es with
    | none =>
      rw [Bx.sync_none hd' (by rw [h.files, findK_map, hf]; rfl)]
      have hc := ftc_none h hd' s hs hf
      have H := Lib.hid h
      clear hd hd' hf h
      go_enter Tryd.func23, Tryd.ntmps23
      go_wp2_with fail
      refine hc.mono ?_
      rintro e w' ⟨rfl, rfl⟩
      go_wp2
      go_ret
      exact ⟨rfl, ⟨m, es, H.out⟩, Turn.refl _ _⟩
    | some e =>
      rw [Bx.sync_some hd' (f := e.file) (by rw [h.files, findK_map, hf]; rfl)]
      by_cases h0 : S.fuel = 0
      · rw [Bx.change_no h0]
        have hc := ftc_no h hd' s hs hf h0
        have hfp := h.fp
        clear hd hd' hf h h0
        go_enter Tryd.func23, Tryd.ntmps23
        go_wp2_with fail
        refine hc.mono ?_
        rintro e w' ⟨rfl, h1, t1⟩
        go_wp2
        go_ret
        exact ⟨rfl, ⟨m, es, h1⟩, t1.mono (fun i hi => by subst hi; exact .inl hfp)⟩
      · rw [Bx.change_yes h0]
        have hc := ftc_ok h hd' s hs hf h0
        have hfp := h.fp
        have HF := Lib.hid hf
        have hfs : S.burnt.files = S.files := by unfold Bx.burnt; rfl
        have HS := Lib.hid hfs
        clear hd hd' hf h h0 hfs
        go_enter Tryd.func23, Tryd.ntmps23
        go_wp2_with fail
        refine hc.mono ?_
        rintro r w1 ⟨rfl, h1, t1⟩
        obtain ⟨hfa, _⟩ := h1.mem.each _ (findK_mem HF.out)
        have c0 : w1.cell? ⟨e.blk, 0, none⟩ = some e.row := by rw [block_cell hfa.head]; rfl
        have c1 : w1.cell? ⟨e.blk, 1, none⟩ = some (.int .i64 (e.file.dur : Int)) := by rw [block_cell hfa.head]; rfl
        have f1 := block_free hfa.head 1
        have HB := Lib.hid (h1.firm HF.out)
        rw [HS.out] at HB
        have T1 := Lib.hid t1
        rcases hfa.row.2 with ⟨hr, hl⟩ | ⟨g, cap, cur, hr, _, _, hle, hcm, _⟩
        · rw [hr] at c0
          rw [hl] at HB
          clear hr hl hfa h1 t1
          go_wp2
          go_ret
          exact ⟨rfl, HB.out.1, (T1.out.mono (fun i hi => by subst hi; exact .inl hfp)).trans HB.out.2 (fun i hi => .inl hi)⟩
        · rw [hr] at c0
          clear hr hfa h1 t1
          go_wp2
          go_ret
          exact ⟨rfl, HB.out.1, (T1.out.mono (fun i hi => by subst hi; exact .inl hfp)).trans HB.out.2 (fun i hi => .inl hi)⟩

end Go.Proofs.YtlgpkbcefaldoaaDoor

/- Layer 3: contracts of Delete, Append. -/
import Derived.Test.YtlgpkbcefaldoaaDoorW03d
import Derived.Test.YtlgpkbcefaldoaaDoorShelf
import Derived.Deep.RegionWith
namespace Go.Proofs.YtlgpkbcefaldoaaDoor
open Go.RowKit Go.Maps Go.WideMaps
set_option linter.unusedVariables false

theorem Turn.toF {F : Nat → Prop} {p : Nat} {w w' : World} (h : Turn (fun k => k = p) w w') (hp : F p) : Turn F w w' := h.mono (fun i hi => by subst hi; exact .inl hp)

set_option maxHeartbeats 400000 in
set_option maxRecDepth 100000 in
theorem box_delete {w : World} {p : Nat} {S : Bx} {F : Nat → Prop} (h : BoxAt w p S F) (s : ByteArray) (hs : s.size ≤ maxLen) :
    Calls Tryd.prog 30 #[.pointer (some ⟨p, 0, none⟩), .string s] w fun r w' => r = .returned (.int .i64 (S.delete s.data.toList).2) ∧ BoxAt w' p (S.delete s.data.toList).1 F ∧ Turn F w w' := by
  obtain ⟨m, es, h⟩ := h
  by_cases hd : S.down = true
  · rw [Bx.delete_down hd]
    have hc := ftc_down h hd s
    have H := Lib.hid h
    clear hd h
    go_enter Tryd.func30, Tryd.ntmps30
    go_wp2_with fail
    refine hc.mono ?_
    rintro e w' ⟨rfl, rfl⟩
    go_wp2
    go_ret
    exact ⟨rfl, ⟨m, es, H.out⟩, Turn.refl _ _⟩
  · have hd' : S.down = false := by simpa using hd
    cases hf : findK s.data.toList es with
    | none =>
      rw [Bx.delete_none hd' (by rw [h.files, findK_map, hf]; rfl)]
      have hc := ftc_none h hd' s hs hf
      have H := Lib.hid h
      clear hd hd' hf h
      go_enter Tryd.func30, Tryd.ntmps30
      go_wp2_with fail
      refine hc.mono ?_
      rintro e w' ⟨rfl, rfl⟩
      go_wp2
      go_ret
      exact ⟨rfl, ⟨m, es, H.out⟩, Turn.refl _ _⟩
    | some e =>
      rw [Bx.delete_some hd' (f := e.file) (by rw [h.files, findK_map, hf]; rfl)]
      by_cases h0 : S.fuel = 0
      · rw [Bx.change_no h0]
        have hc := ftc_no h hd' s hs hf h0
        have hfp := h.fp
        clear hd hd' hf h h0
        go_enter Tryd.func30, Tryd.ntmps30
        go_wp2_with fail
        refine hc.mono ?_
        rintro e w' ⟨rfl, h1, t1⟩
        go_wp2
        go_ret
        exact ⟨rfl, ⟨m, es, h1⟩, t1.toF hfp⟩
      · rw [Bx.change_yes h0]
        have hc := ftc_ok h hd' s hs hf h0
        have hfp := h.fp
        have hfm := h.fm
        have hfs : S.burnt.files = S.files := by unfold Bx.burnt; rfl
        have HS := Lib.hid hfs
        have hkey := keyOf_string_mk Tryd.underlying9 hs
        have HK := Lib.hid hkey
        clear hd hd' hf h h0 hfs hkey
        go_enter Tryd.func30, Tryd.ntmps30
        go_wp2_with fail
        refine hc.mono ?_
        rintro r w1 ⟨rfl, h1, t1⟩
        have c0 := h1.head.c0
        have hmap := h1.map
        unfold MapAt at hmap
        have T1 := Lib.hid t1
        have H1 := Lib.hid h1
        clear h1 t1
        go_wp2_with (at_delete; refine wpList_delete_own _ rfl _ _ 48 9 rfl 60 (string_keyed Tryd.underlying9) Tryd.underlying48 ptrR m _ _ rfl hmap _ _ rfl HK.out ?_; intro w2 hown2 hturn2)
        have t2 : Turn (fun k => k = m) w1 w2 := (Turn.refl (fun k => k = m) w1).grown hturn2.grown (fun k hk => by injection hk with hk; exact .inl hk.symm)
        have h2 := H1.out.del hown2 t2
        rw [HS.out] at h2
        have H2 := Lib.hid h2
        have T2 := Lib.hid t2
        clear hown2 hturn2 hmap c0 h2 t2
        go_wp2
        go_ret
        exact ⟨rfl, ⟨m, _, H2.out⟩, (T1.out.toF hfp).trans (T2.out.toF hfm) (fun i hi => .inl hi)⟩

theorem strings_clone (s : ByteArray) (w : World) (hs : s.size ≤ 281474976710656) :
    Calls Tryd.prog 18 #[.string s] w fun e w' => e = .returned (.string s) ∧ Below w.heap.size w w' := by
  go_enter Tryd.func18, Tryd.ntmps18
  go_wp2_with fail
  refine (Sh.stringslite_Clone s _ hs).mono ?_
  rintro e w' ⟨rfl, hb⟩
  go_wp2
  go_ret
  exact ⟨rfl, hb⟩

/-- The bytes of a file, added to. -/
theorem BoxIn.added {F : Nat → Prop} {w w1 : World} {p m : Nat} {es : List (Key × EntM)} {S : Bx} (h : BoxIn w p m es S F) {n : Key} {e : EntM} (hf : findK n es = some e) {v : Value} {d : List UInt8} {base : Nat}
    (ho : w1.ownsRow base 5 1 v (e.file.bytes.length + d.length) ((e.file.bytes ++ d).map bv)) (hg : w.grownBy w1 e.row.ownBlock) (hv : ∀ k, v.ownBlock = some k → e.row.ownBlock = some k ∨ w.heap.size ≤ k) :
    BoxAt (w1.setCell ⟨e.blk, 0, none⟩ v) p ⟨updK n (addF d e.file) S.files, S.fuel, S.down⟩ (Grew F w (w1.setCell ⟨e.blk, 0, none⟩ v)) ∧ Turn F w (w1.setCell ⟨e.blk, 0, none⟩ v) := by
  obtain ⟨hfa, hnm⟩ := h.mem.each _ (findK_mem hf)
  have hfa : FileAt w F e := hfa
  have hsz : (w1.setCell ⟨e.blk, 0, none⟩ v).heap.size = w1.heap.size := by simp [World.setCell]
  have t1 : Turn (fun k => e.row.ownBlock = some k) w w1 := (Turn.refl _ w).grown hg (fun k hk => .inl hk)
  have hd1 : w1.heap[e.blk]? = some (.cells #[e.row, .int .i64 (e.file.dur : Int)] 63 (0, 0)) := t1.keeps hfa.head (fun e1 => hfa.blkNotRow hfa e1 rfl)
  have t : Turn (fun k => k = e.blk ∨ e.row.ownBlock = some k) w (w1.setCell ⟨e.blk, 0, none⟩ v) :=
    (t1.mono (fun i hi => .inl (.inr hi))).setCell (p := ⟨e.blk, 0, none⟩) (.inl (.inl rfl)) v
  have hvl : ∀ k, v.ownBlock = some k → k < w1.heap.size := fun k hk => (ho.lt k hk).2
  have he : FileAt (w1.setCell ⟨e.blk, 0, none⟩ v) (Grew F w (w1.setCell ⟨e.blk, 0, none⟩ v)) ⟨addF d e.file, e.blk, v⟩ := by
    refine ⟨block_set hd1 0 _, ?_, ?_, .inl hfa.fblk, fun k hk => ?_⟩
    · have t3 : Turn (fun k => k = e.blk) w1 (w1.setCell ⟨e.blk, 0, none⟩ v) := (Turn.refl (fun k => k = e.blk) w1).setCell (p := ⟨e.blk, 0, none⟩) (.inl rfl) v
      have ho0 : w1.ownsRow 0 5 1 v (addF d e.file).bytes.length ((addF d e.file).bytes.map bv) := by
        show w1.ownsRow 0 5 1 v (e.file.bytes ++ d).length ((e.file.bytes ++ d).map bv)
        rw [List.length_append]
        refine ⟨ho.1, ?_⟩
        rcases ho.2 with h1 | ⟨g, cap, cur, hv, hb, r⟩
        · exact .inl h1
        · exact .inr ⟨g, cap, cur, hv, Nat.zero_le _, r⟩
      refine t3.row ho0 (fun k hk e1 => ?_)
      rcases ho0.2 with ⟨h1, _⟩ | ⟨g, cap, cur, h1, _, h2, _⟩
      · rw [h1] at hk; simp [Value.ownBlock] at hk
      · rw [h1] at hk
        simp [Value.ownBlock] at hk
        rw [hk, e1, hd1] at h2
        simp at h2
    · have := hfa.dur
      show e.file.dur ≤ (e.file.bytes ++ d).length
      rw [List.length_append]; omega
    · rcases hv k hk with h1 | h1
      · exact .inl (hfa.frow k h1)
      · exact .inr ⟨h1, by rw [hsz]; exact hvl k hk⟩
  exact ⟨⟨m, _, h.upd hf (e' := ⟨addF d e.file, e.blk, v⟩) rfl he t (fun k hk => .inl hk) hv⟩, t.mono (fun i hi => by rcases hi with rfl | hi; exact .inl hfa.fblk; exact .inl (hfa.frow i hi))⟩

end Go.Proofs.YtlgpkbcefaldoaaDoor

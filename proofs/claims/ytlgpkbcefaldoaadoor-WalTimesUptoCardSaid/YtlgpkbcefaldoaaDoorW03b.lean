/- Layer 3: contracts of isDown, isName, burn, find, findToChange. -/
import Derived.Test.YtlgpkbcefaldoaaDoorW03
namespace Go.Proofs.YtlgpkbcefaldoaaDoor
open Go.RowKit Go.Maps Go.WideMaps
set_option linter.unusedVariables false

section
variable {F : Nat → Prop} {w w' : World} {p m : Nat} {es : List (Key × EntM)} {S : Bx}

theorem BoxIn.lm (h : BoxIn w p m es S F) : m < w.heap.size := World.ownsMap.lt h.map
theorem BoxIn.pm (h : BoxIn w p m es S F) : m ≠ p := by
  rintro rfl
  obtain ⟨a, b, hb, _⟩ := h.map
  have := h.head
  unfold HeadAt at this
  rw [hb] at this; cases this
theorem FileAt.notHead {e : EntM} {q : Nat} {c : Array Value} (h : FileAt w F e) (hq : w.heap[q]? = some (.cells c 50 (0, 0))) : e.blk ≠ q ∧ ∀ k, e.row.ownBlock = some k → k ≠ q := by
  refine ⟨fun he => ?_, fun k hk he => ?_⟩
  · have := h.head
    rw [he, hq] at this
    simp at this
  · subst he
    rcases h.row.2 with ⟨h1, _⟩ | ⟨g, cap, cur, h1, _, h2, _⟩
    · rw [h1] at hk; simp [Value.ownBlock] at hk
    · rw [h1] at hk
      simp [Value.ownBlock] at hk
      subst hk
      rw [hq] at h2
      simp at h2
/-- The box's own block is written: all else stays. -/
theorem BoxIn.reHead (h : BoxIn w p m es S F) {f : Int} {d : Bool} (hh : HeadAt w' p m f d) (t : Turn (fun k => k = p) w w') (h0 : -9223372036854775808 ≤ f) (h1 : f ≤ 9223372036854775807) : BoxIn w' p m es ⟨S.files, f, d⟩ F := by
  refine ⟨hh, t.map h.map h.pm, h.files, ⟨fun x hx => ?_, h.mem.apart⟩, h.fp, h.fm, h0, h1⟩
  obtain ⟨hf, hn⟩ := h.mem.each x hx
  have hne := hf.notHead h.head
  exact ⟨⟨t.keeps hf.head hne.1, t.row hf.row (fun k hk => hne.2 k hk), hf.dur, hf.fblk, hf.frow⟩, hn⟩
end

set_option maxHeartbeats 400000 in
set_option maxRecDepth 100000 in
theorem isDown_nil (w : World) : Calls Tryd.prog 27 #[.pointer none] w fun e w' => e = .returned (.bool true) ∧ w = w' := by
  go_enter Tryd.func27, Tryd.ntmps27
  go_wp2
  go_ret
  exact ⟨rfl, rfl⟩

set_option maxHeartbeats 400000 in
set_option maxRecDepth 100000 in
theorem isDown_any {w : World} {p m : Nat} {f : Int} {d : Bool} (h : HeadAt w p m f d) :
    Calls Tryd.prog 27 #[.pointer (some ⟨p, 0, none⟩)] w fun e w' => e = .returned (.bool d) ∧ w = w' := by
  have c2 := h.c2
  clear h
  go_enter Tryd.func27, Tryd.ntmps27
  go_wp2
  go_ret
  exact ⟨rfl, rfl⟩

theorem nameOK_eq (s : ByteArray) : nameOK s.data.toList = decide (1 ≤ s.size ∧ s.size ≤ 32) := by
  unfold nameOK
  have : s.data.toList.length = s.size := by simp
  rw [this]

set_option maxHeartbeats 400000 in
set_option maxRecDepth 100000 in
theorem isName_any (s : ByteArray) (hs : s.size ≤ maxLen) (w : World) :
    Calls Tryd.prog 28 #[.string s] w fun e w' => e = .returned (.bool (nameOK s.data.toList)) ∧ w = w' := by
  unfold maxLen at hs
  have hn := Lib.hid (nameOK_eq s)
  by_cases h0 : s.size = 0
  · obtain rfl : s = ⟨#[]⟩ := by
      apply ByteArray.ext
      exact Array.eq_empty_of_size_eq_zero h0
    clear h0
    go_enter Tryd.func28, Tryd.ntmps28
    go_wp2
    go_ret
    exact ⟨rfl, rfl⟩
  · have h1 : s.toList.isEmpty = false := by
      rw [ByteArray.toList_eq]
      cases h : s.data.toList with
      | nil =>
        exfalso
        apply h0
        have := congrArg List.length h
        simpa using this
      | cons a b => rfl
    have h2 : ¬ s.toList = [] := by intro h; rw [h] at h1; cases h1
    have h3 : 1 ≤ s.size := by omega
    have H0 := Lib.hid h0
    clear h0
    go_enter Tryd.func28, Tryd.ntmps28
    go_wp2
    go_ret
    exact ⟨by rw [hn.out]; simp [h3]; omega, rfl⟩

set_option maxHeartbeats 400000 in
set_option maxRecDepth 100000 in
theorem burn_no {w : World} {p m : Nat} {es : List (Key × EntM)} {S : Bx} {F : Nat → Prop} (h : BoxIn w p m es S F) (h0 : S.fuel = 0) :
    Calls Tryd.prog 29 #[.pointer (some ⟨p, 0, none⟩)] w fun e w' => e = .returned (.bool false) ∧ BoxIn w' p m es S.fall F ∧ Turn (fun k => k = p) w w' := by
  have hh := h.head
  have hh2 := Lib.hid (hh.setDown true)
  rw [h0] at hh
  have c1 := hh.c1
  have c2 := hh.c2
  have f2 := hh.free 2
  have H := Lib.hid h
  have H0 := Lib.hid h0
  clear h hh h0
  go_enter Tryd.func29, Tryd.ntmps29
  go_wp2
  go_ret
  have ht := (Turn.refl (fun k => k = p) w).setCell (p := ⟨p, 2, none⟩) (.inl rfl) (.bool true)
  exact ⟨rfl, H.out.reHead hh2.out ht H.out.lo H.out.hi, ht⟩

set_option maxHeartbeats 400000 in
set_option maxRecDepth 100000 in
theorem burn_ok {w : World} {p m : Nat} {es : List (Key × EntM)} {S : Bx} {F : Nat → Prop} (h : BoxIn w p m es S F) (h0 : S.fuel ≠ 0) :
    Calls Tryd.prog 29 #[.pointer (some ⟨p, 0, none⟩)] w fun e w' => e = .returned (.bool true) ∧ BoxIn w' p m es S.burnt F ∧ Turn (fun k => k = p) w w' := by
  have hh := h.head
  have c1 := hh.c1
  have f1 := hh.free 1
  have hlo := h.lo
  have hhi := h.hi
  have H := Lib.hid h
  have HH := Lib.hid hh
  have h1 : decide (S.fuel = 0) = false := by simpa using h0
  clear h hh
  by_cases hp : 0 < S.fuel
  · go_enter Tryd.func29, Tryd.ntmps29
    go_wp2
    go_ret
    have ht := (Turn.refl (fun k => k = p) w).setCell (p := ⟨p, 1, none⟩) (.inl rfl) (.int .i64 (S.fuel - 1))
    have e : S.burnt = ⟨S.files, S.fuel - 1, S.down⟩ := by unfold Bx.burnt; rw [if_pos hp]
    rw [e]
    exact ⟨rfl, H.out.reHead (HH.out.setFuel (S.fuel - 1)) ht (by omega) (by omega), ht⟩
  · go_enter Tryd.func29, Tryd.ntmps29
    go_wp2
    go_ret
    have e : S.burnt = S := by unfold Bx.burnt; rw [if_neg (by omega)]
    rw [e]
    exact ⟨rfl, H.out, Turn.refl _ _⟩

set_option maxHeartbeats 400000 in
set_option maxRecDepth 100000 in
theorem find_nil (s : ByteArray) (w : World) :
    Calls Tryd.prog 31 #[.pointer none, .string s] w fun e w' => e = .returned (.tuple #[.pointer none, .int .i64 30]) ∧ w = w' := by
  go_enter Tryd.func31, Tryd.ntmps31
  go_wp2_with fail
  refine (isDown_nil _).mono ?_
  rintro e w' ⟨rfl, rfl⟩
  go_wp2
  go_ret2
  exact ⟨rfl, rfl⟩

set_option maxHeartbeats 400000 in
set_option maxRecDepth 100000 in
theorem find_down {w : World} {p m : Nat} {es : List (Key × EntM)} {S : Bx} {F : Nat → Prop} (h : BoxIn w p m es S F) (hd : S.down = true) (s : ByteArray) :
    Calls Tryd.prog 31 #[.pointer (some ⟨p, 0, none⟩), .string s] w fun e w' => e = .returned (.tuple #[.pointer none, .int .i64 30]) ∧ w = w' := by
  have hh := h.head
  rw [hd] at hh
  clear hd h
  go_enter Tryd.func31, Tryd.ntmps31
  go_wp2_with fail
  refine (isDown_any hh).mono ?_
  rintro e w' ⟨rfl, rfl⟩
  go_wp2
  go_ret2
  exact ⟨rfl, rfl⟩

set_option maxHeartbeats 400000 in
set_option maxRecDepth 100000 in
theorem find_none {w : World} {p m : Nat} {es : List (Key × EntM)} {S : Bx} {F : Nat → Prop} (h : BoxIn w p m es S F) (hd : S.down = false) (s : ByteArray) (hs : s.size ≤ maxLen) (hf : findK s.data.toList es = none) :
    Calls Tryd.prog 31 #[.pointer (some ⟨p, 0, none⟩), .string s] w fun e w' => e = .returned (.tuple #[.pointer none, .int .i64 31]) ∧ w = w' := by
  have hh := h.head
  rw [hd] at hh
  have hl := h.map.look s hs
  rw [hf] at hl
  have c0 := hh.c0
  clear hd h hf
  go_enter Tryd.func31, Tryd.ntmps31
  go_wp2_with fail
  refine (isDown_any hh).mono ?_
  rintro e w' ⟨rfl, rfl⟩
  clear hh
  go_wp2
  go_ret2
  exact ⟨rfl, rfl⟩

set_option maxHeartbeats 400000 in
set_option maxRecDepth 100000 in
theorem find_some {w : World} {p m : Nat} {es : List (Key × EntM)} {S : Bx} {F : Nat → Prop} (h : BoxIn w p m es S F) (hd : S.down = false) (s : ByteArray) (hs : s.size ≤ maxLen) {e : EntM} (hf : findK s.data.toList es = some e) :
    Calls Tryd.prog 31 #[.pointer (some ⟨p, 0, none⟩), .string s] w fun r w' => r = .returned (.tuple #[.pointer (some ⟨e.blk, 0, none⟩), .int .i64 0]) ∧ w = w' := by
  have hh := h.head
  rw [hd] at hh
  have hl := h.map.look s hs
  rw [hf] at hl
  have c0 := hh.c0
  clear hd h hf
  go_enter Tryd.func31, Tryd.ntmps31
  go_wp2_with fail
  refine (isDown_any hh).mono ?_
  rintro e w' ⟨rfl, rfl⟩
  clear hh
  go_wp2
  go_ret2
  exact ⟨rfl, rfl⟩

end Go.Proofs.YtlgpkbcefaldoaaDoor

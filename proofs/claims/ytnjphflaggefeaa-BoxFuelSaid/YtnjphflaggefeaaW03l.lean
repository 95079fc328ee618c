/- Layer 3: the walks of BoxNone and BoxFuel. -/
import Derived.Test.YtnjphflaggefeaaW03k
namespace Go.Proofs.Ytnjphflaggefeaa
open Go.RowKit Go.Maps Go.WideMaps
set_option linter.unusedVariables false

set_option maxHeartbeats 400000 in
set_option maxRecDepth 100000 in
theorem box_read_nil (s : ByteArray) (w : World) : Calls Try.prog 21 #[.pointer none, .string s] w fun e w' => e = .returned (.tuple #[.string ⟨#[]⟩, .int .i64 30]) ∧ w = w' := by
  go_enter Try.func21, Try.ntmps21
  go_wp2_with fail
  refine (find_nil s _).mono ?_
  rintro e w' ⟨rfl, rfl⟩
  go_wp2
  go_ret2
  exact ⟨rfl, rfl⟩
set_option maxHeartbeats 400000 in
set_option maxRecDepth 100000 in
theorem box_list_nil (w : World) : Calls Try.prog 24 #[.pointer none] w fun e w' => e = .returned (.tuple #[.slice none 0 0, .int .i64 30]) ∧ w = w' := by
  go_enter Try.func24, Try.ntmps24
  go_wp2_with fail
  refine (isDown_nil _).mono ?_
  rintro e w' ⟨rfl, rfl⟩
  go_wp2
  go_ret2
  exact ⟨rfl, rfl⟩
set_option maxHeartbeats 400000 in
set_option maxRecDepth 100000 in
theorem box_append_nil (s d : ByteArray) (w : World) : Calls Try.prog 12 #[.pointer none, .string s, .string d] w fun e w' => e = .returned (.int .i64 30) ∧ w = w' := by
  go_enter Try.func12, Try.ntmps12
  go_wp2_with fail
  refine (isDown_nil _).mono ?_
  rintro e w' ⟨rfl, rfl⟩
  go_wp2
  go_ret
  exact ⟨rfl, rfl⟩
set_option maxHeartbeats 400000 in
set_option maxRecDepth 100000 in
theorem box_sync_nil (s : ByteArray) (w : World) : Calls Try.prog 14 #[.pointer none, .string s] w fun e w' => e = .returned (.int .i64 30) ∧ w = w' := by
  go_enter Try.func14, Try.ntmps14
  go_wp2_with fail
  refine (ftc_nil s _).mono ?_
  rintro e w' ⟨rfl, rfl⟩
  go_wp2
  go_ret
  exact ⟨rfl, rfl⟩
set_option maxHeartbeats 400000 in
set_option maxRecDepth 100000 in
theorem box_delete_nil (s : ByteArray) (w : World) : Calls Try.prog 16 #[.pointer none, .string s] w fun e w' => e = .returned (.int .i64 30) ∧ w = w' := by
  go_enter Try.func16, Try.ntmps16
  go_wp2_with fail
  refine (ftc_nil s _).mono ?_
  rintro e w' ⟨rfl, rfl⟩
  go_wp2
  go_ret
  exact ⟨rfl, rfl⟩

set_option maxHeartbeats 1000000 in
set_option maxRecDepth 100000 in
theorem none_walk (s : ByteArray) (v : Value) (w : World) :
    Calls Try.prog 7 #[.string s, v] w fun e w' => e = .returned (.bool true) ∧ Below w.heap.size w w' := by
  go_enter Try.func7, Try.ntmps7
  go_wp2_with fail
  refine (awake3_any _).mono ?_
  rintro e w1 ⟨rfl, b1⟩
  have B1 := Lib.hid b1
  clear b1
  go_wp2_with fail
  refine (box_fuel_nil 3 _).mono ?_
  rintro e w' ⟨rfl, rfl⟩
  go_wp2_with fail
  refine (box_read_nil s _).mono ?_
  rintro e w' ⟨rfl, rfl⟩
  go_wp2_with fail
  refine (box_list_nil _).mono ?_
  rintro e w' ⟨rfl, rfl⟩
  go_wp2_with fail
  refine (box_append_nil s _ _).mono ?_
  rintro e w' ⟨rfl, rfl⟩
  go_wp2_with fail
  refine (box_sync_nil s _).mono ?_
  rintro e w' ⟨rfl, rfl⟩
  go_wp2_with fail
  refine (box_delete_nil s _).mono ?_
  rintro e w' ⟨rfl, rfl⟩
  go_wp2_with fail
  refine (box_crash_nil v _).mono ?_
  rintro e w' ⟨rfl, rfl⟩
  go_wp2
  go_ret
  exact ⟨rfl, B1.out⟩

/-- A box of one file under way, i changes tried, n made. -/
structure FInv (fuel : Int) (i n : Nat) (S : Bx) : Prop where
  file : ∃ f : FileS, S.files = [([102], f)] ∧ f.bytes.length ≤ 1 + i
  how : (fuel < 0 ∧ n = i ∧ S.fuel = fuel ∧ S.down = false) ∨ (0 ≤ fuel ∧ (i : Int) ≤ fuel ∧ n = i ∧ S.fuel = fuel - i ∧ S.down = false) ∨ (0 ≤ fuel ∧ fuel < i ∧ (n : Int) = fuel ∧ S.down = true)

/-- One change more. -/
theorem FInv.step {fuel : Int} {i n : Nat} {S : Bx} (h : FInv fuel i n S) {S' : Bx} {r : Int} (hd : S.down = true → (S', r) = (S, 30)) (hc : ∀ f, S.files = [([102], f)] → S.down = false → ∃ f' : FileS, f'.bytes.length ≤ f.bytes.length + 1 ∧ (S', r) = S.change [([102], f')]) :
    (r = 0 ∧ FInv fuel (i + 1) (n + 1) S') ∨ (r = 30 ∧ FInv fuel (i + 1) n S') := by
  obtain ⟨f, hf, hl⟩ := h.file
  rcases h.how with ⟨h1, h2, h3, h4⟩ | ⟨h1, h2, h3, h4, h5⟩ | ⟨h1, h2, h3, h4⟩
  · obtain ⟨f', hl', he⟩ := hc f hf h4
    rw [Bx.change_yes (by omega)] at he
    injection he with e1 e2
    subst e1; subst e2
    refine .inl ⟨rfl, ⟨f', rfl, by omega⟩, .inl ⟨h1, by omega, ?_, h4⟩⟩
    show (if 0 < S.fuel then S.fuel - 1 else S.fuel) = fuel
    rw [if_neg (by omega), h3]
  · obtain ⟨f', hl', he⟩ := hc f hf h5
    by_cases h0 : S.fuel = 0
    · rw [Bx.change_no h0] at he
      injection he with e1 e2
      subst e1; subst e2
      exact .inr ⟨rfl, ⟨f, hf, by omega⟩, .inr (.inr ⟨h1, by omega, by omega, rfl⟩)⟩
    · rw [Bx.change_yes h0] at he
      injection he with e1 e2
      subst e1; subst e2
      refine .inl ⟨rfl, ⟨f', rfl, by omega⟩, .inr (.inl ⟨h1, by omega, by omega, ?_, h5⟩)⟩
      show (if 0 < S.fuel then S.fuel - 1 else S.fuel) = _
      rw [if_pos (by omega)]
      omega
  · have he := hd h4
    injection he with e1 e2
    subst e1; subst e2
    exact .inr ⟨rfl, ⟨f, hf, by omega⟩, .inr (.inr ⟨h1, by omega, h3, h4⟩)⟩

theorem FInv.append {fuel : Int} {i n : Nat} {S : Bx} (h : FInv fuel i n S) : ((S.append [102] [121]).2 = 0 ∧ FInv fuel (i + 1) (n + 1) (S.append [102] [121]).1) ∨ ((S.append [102] [121]).2 = 30 ∧ FInv fuel (i + 1) n (S.append [102] [121]).1) := by
  refine h.step (fun hd => Bx.append_down hd) (fun f hf hd => ⟨addF [121] f, by simp [addF], ?_⟩)
  rw [show ((S.append [102] [121]).1, (S.append [102] [121]).2) = S.append [102] [121] from rfl, Bx.append_ok hd rfl, hf]
  rfl
theorem FInv.sync {fuel : Int} {i n : Nat} {S : Bx} (h : FInv fuel i n S) : ((S.sync [102]).2 = 0 ∧ FInv fuel (i + 1) (n + 1) (S.sync [102]).1) ∨ ((S.sync [102]).2 = 30 ∧ FInv fuel (i + 1) n (S.sync [102]).1) := by
  refine h.step (fun hd => Bx.sync_down hd) (fun f hf hd => ⟨firmF f, by simp [firmF], ?_⟩)
  rw [show ((S.sync [102]).1, (S.sync [102]).2) = S.sync [102] from rfl, Bx.sync_some hd (f := f) (by rw [hf]; rfl), hf]
  rfl
theorem FInv.small {fuel : Int} {i n : Nat} {S : Bx} (h : FInv fuel i n S) : weigh S.files ≤ 2 + i := by
  obtain ⟨f, hf, hl⟩ := h.file
  rw [hf]
  simp [weigh]
  omega

def fu1 : Bx := ⟨[([102], ⟨[120], 0⟩)], -1, false⟩
theorem fu1_eq : Bx.new.append [102] [120] = (fu1, 0) := rfl

set_option maxHeartbeats 1000000 in
set_option maxRecDepth 100000 in
theorem fuel_walk (f : Int) (hf : (Lit.int .i64 f).wf = true) (t : Int) (ht : (Lit.int .i64 t).wf = true) (w : World) :
    Calls Try.prog 6 #[.int .i64 f, .int .i64 t] w fun e w' => e = .returned (.bool true) ∧ Below w.heap.size w w' := by
  have hfb := bounds_i64 hf
  have htb := bounds_i64 ht
  have HF := Lib.hid hf
  clear hf ht
  by_cases h500 : 500 < t
  · go_enter Try.func6, Try.ntmps6
    go_wp2_with fail
    refine (awake3_any _).mono ?_
    rintro e w1 ⟨rfl, b1⟩
    go_wp2
    go_ret
    exact ⟨rfl, b1⟩
  · go_enter Try.func6, Try.ntmps6
    go_wp2_with fail
    refine (awake3_any _).mono ?_
    rintro e w1 ⟨rfl, b1⟩
    go_wp2_with fail
    refine (own_new w.heap.size _ b1.size).mono ?_
    rintro e w2 ⟨p, rfl, h2, c2⟩
    have b2 := below_next b1 (Nat.le_refl _) c2
    clear b1 c2
    go_wp2_with fail
    refine (own_append h2 b2.size ⟨#[102]⟩ ⟨#[120]⟩ (by decide) (by decide)).mono ?_
    rintro e w3 ⟨rfl, h3, c3⟩
    rw [show Bx.new.append (ByteArray.mk #[102]).data.toList (ByteArray.mk #[120]).data.toList = (fu1, 0) from fu1_eq] at h3
    rw [show Bx.new.append (ByteArray.mk #[102]).data.toList (ByteArray.mk #[120]).data.toList = (fu1, 0) from fu1_eq]
    have b3 := b2.trans c3
    clear h2 b2 c3
    go_wp2_with fail
    refine (own_fuel h3 b3.size f HF.out).mono ?_
    rintro e w4 ⟨rfl, h4, c4⟩
    have b4 := b3.trans c4
    clear h3 b3 c4
    have hst : FInv f 0 0 ⟨fu1.files, f, fu1.down⟩ := by
      refine ⟨⟨_, rfl, by decide⟩, ?_⟩
      by_cases h0 : f < 0
      · exact .inl ⟨h0, rfl, rfl, rfl⟩
      · exact .inr (.inl ⟨by omega, by omega, rfl, by show f = f - 0; omega, rfl⟩)
    have HST := Lib.hid hst
    have H4 := Lib.hid h4
    have B4 := Lib.hid b4
    clear hst h4 b4
    go_wp2
    go_loopw [6, 7] (fun nv iv wr => ∃ (i n : Nat) (S : Bx), i ≤ t.toNat ∧ iv = .int .i64 (i : Int) ∧ nv = .int .i64 (n : Int) ∧ n ≤ i ∧ Hid (FInv f i n S) ∧ Hid (Own w.heap.size wr p S) ∧ Hid (Below w.heap.size w wr)) (fun _ iv _ => t.toNat - (intOf iv).toNat)
    case atStart => exact ⟨0, 0, _, by omega, rfl, rfl, by omega, HST.out, H4.out, B4.out⟩
    case round =>
      clear HST H4 B4
      obtain ⟨i, n, S, hi, rfl, rfl, hn, HI, HO, HB⟩ := hrel
      by_cases hlt : (i : Int) < t
      · have hsz := HB.out.size
        have hwg := HI.out.small
        by_cases hev : (i : Int) % 2 = 0
        · go_wp2_with fail
          refine (own_append HO.out hsz ⟨#[102]⟩ ⟨#[121]⟩ (by decide) (by show _ + 1 ≤ _; omega)).mono ?_
          rintro e w5 ⟨rfl, h5, c5⟩
          have hb5 := Lib.hid (HB.out.trans c5)
          have hs := HI.out.append
          have H5 := Lib.hid h5
          clear c5 h5
          rcases hs with ⟨hr, hI⟩ | ⟨hr, hI⟩
          · rw [show (S.append (ByteArray.mk #[102]).data.toList (ByteArray.mk #[121]).data.toList).2 = 0 from hr]
            have HI2 := Lib.hid hI
            clear hr hI
            go_wp2
            go_roundw
            case rel => exact ⟨i + 1, n + 1, _, by omega, by go_num, by go_num, by omega, HI2, H5, hb5⟩
            case measure => simp [intOf]; omega
          · rw [show (S.append (ByteArray.mk #[102]).data.toList (ByteArray.mk #[121]).data.toList).2 = 30 from hr]
            have HI2 := Lib.hid hI
            clear hr hI
            go_wp2
            go_roundw
            case rel => exact ⟨i + 1, n, _, by omega, by go_num, by go_num, by omega, HI2, H5, hb5⟩
            case measure => simp [intOf]; omega
        · have hev2 : ((i : Int) % 2 == 0) = false := by simpa using hev
          go_wp2_with fail
          refine (own_sync HO.out hsz ⟨#[102]⟩ (by decide)).mono ?_
          rintro e w5 ⟨rfl, h5, c5⟩
          have hb5 := Lib.hid (HB.out.trans c5)
          have hs := HI.out.sync
          have H5 := Lib.hid h5
          clear c5 h5
          rcases hs with ⟨hr, hI⟩ | ⟨hr, hI⟩
          · rw [show (S.sync (ByteArray.mk #[102]).data.toList).2 = 0 from hr]
            have HI2 := Lib.hid hI
            clear hr hI
            go_wp2
            go_roundw
            case rel => exact ⟨i + 1, n + 1, _, by omega, by go_num, by go_num, by omega, HI2, H5, hb5⟩
            case measure => simp [intOf]; omega
          · rw [show (S.sync (ByteArray.mk #[102]).data.toList).2 = 30 from hr]
            have HI2 := Lib.hid hI
            clear hr hI
            go_wp2
            go_roundw
            case rel => exact ⟨i + 1, n, _, by omega, by go_num, by go_num, by omega, HI2, H5, hb5⟩
            case measure => simp [intOf]; omega
      · have hmax : max t 0 = (i : Int) := by omega
        have hsz := HB.out.size
        have hwg := HI.out.small
        rcases HI.out.how with ⟨h1, rfl, h3, h4⟩ | ⟨h1, h2, rfl, h4, h5⟩ | ⟨h1, h2, h3, h4⟩
        · have hge : ¬ f ≥ 0 := by omega
          clear h3 h4
          go_wp2_with fail
          refine (own_fuel HO.out hsz 9 (by decide)).mono ?_
          rintro e w6 ⟨rfl, h6, c6⟩
          have hb6 := Lib.hid (HB.out.trans c6)
          clear h6 c6
          go_wp2
          go_ret
          exact ⟨rfl, hb6.out⟩
        · have hmin : min (n : Int) f = (n : Int) := by omega
          clear h4 h5
          go_wp2_with fail
          refine (own_fuel HO.out hsz 9 (by decide)).mono ?_
          rintro e w6 ⟨rfl, h6, c6⟩
          have hb6 := Lib.hid (HB.out.trans c6)
          clear h6 c6
          go_wp2
          go_ret
          exact ⟨rfl, hb6.out⟩
        · obtain rfl := h3
          have hmin : min (i : Int) (n : Int) = (n : Int) := by omega
          have hne : ((n : Int) == (i : Int)) = false := by simp; omega
          have hne2 : decide ((n : Int) = (i : Int)) = false := by simp; omega
          have hne3 : ¬ n = i := by omega
          have H4 := Lib.hid h4
          clear h4
          go_wp2_with fail
          refine (own_fuel HO.out hsz 9 (by decide)).mono ?_
          rintro e w6 ⟨rfl, h6, c6⟩
          have hb6 := Lib.hid (HB.out.trans c6)
          have H6 := Lib.hid h6
          clear h6 c6
          go_wp2_with fail
          refine (own_append H6.out hb6.out.size ⟨#[102]⟩ ⟨#[122]⟩ (by decide) (by show weigh S.files + 1 ≤ _; omega)).mono ?_
          rintro e w7 ⟨rfl, h7, c7⟩
          have hb7 := Lib.hid (hb6.out.trans c7)
          rw [Bx.append_down (show (Bx.mk S.files 9 S.down).down = true from H4.out)]
          clear h7 c7
          go_wp2
          go_ret
          exact ⟨rfl, hb7.out⟩
end Go.Proofs.Ytnjphflaggefeaa

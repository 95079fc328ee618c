/- Layer 11: the walks of RingOwners and RingRound. -/
import Derived.Test.YtfnbkmmfaaklnaaDoorR11
namespace Go.Proofs.YtfnbkmmfaaklnaaDoor
open Go.RowKit
set_option linter.unusedVariables false

theorem shardE_in (n : Int) : shardE n = 0 ∨ shardE n = 1 := by unfold shardE; split <;> simp
set_option maxHeartbeats 1000000 in
set_option maxRecDepth 100000 in
theorem owners11_walk {w : World} (ht : Tab w) (a : Option Addr) (c : Nat) (ks : List ByteArray) (key : ByteArray) (n : Int) (h : Row1 w a ks.length (fun i => .string (ks.getD i ByteArray.empty))) (hs : ∀ i, (ks.getD i ByteArray.empty).size ≤ 140737488351232) (hk : key.size ≤ 140737488351232) (hn : (Lit.int .i64 n).wf = true) :
    Calls Tryd.prog 3 #[.slice a ks.length c, .string key, .int .i64 n] w fun e w' => e = .returned (.bool true) ∧ Below w.heap.size w w' := by
  have hk' : key.size ≤ maxLen := by unfold maxLen; omega
  have hs' : ∀ i, (ks.getD i ByteArray.empty).size ≤ maxLen := fun i => by have := hs i; unfold maxLen; omega
  have HT := Lib.hid ht
  have hcall : Hid (∀ w', Below w.heap.size w w' → Calls Tryd.prog 10 #[.slice a ks.length c, .string key] w' fun e w'' => e = .returned (.string (ownO (farN key) ks)) ∧ w'' = w') := Lib.hid fun w' b => owner_any a c ks key w' ⟨h.max, by
    rcases h.row with h0 | ⟨b', off, ha, hb, hc⟩
    · exact .inl h0
    · exact .inr ⟨b', off, ha, Nat.lt_of_lt_of_le hb b.size, fun i hi => (b.cell (p := ⟨b', off + i, none⟩) hb).trans (hc i hi)⟩⟩ hs' hk'
  have hrcall : Hid (∀ w', Below w.heap.size w w' → Calls Tryd.prog 11 #[.slice a ks.length c, .string key] w' fun e w'' => e = .returned (.string (ownO (farN key) ks)) ∧ w'' = w') := Lib.hid fun w' b => rowner_any a c ks key w' ⟨h.max, by
    rcases h.row with h0 | ⟨b', off, ha, hb, hc⟩
    · exact .inl h0
    · exact .inr ⟨b', off, ha, Nat.lt_of_lt_of_le hb b.size, fun i hi => (b.cell (p := ⟨b', off + i, none⟩) hb).trans (hc i hi)⟩⟩ hs' hk'
  have hsh := shard_any key n hk' hn
  have hrs := rshard_any key n hk' hn
  have hE := shardE_in n
  have HN := Lib.hid hn
  clear h hs hs' hk hk' ht hn
  generalize ownO (farN key) ks = o at *
  generalize shardN key n = x at *
  generalize shardE n = y at *
  generalize hnm : nameB n = z at *
  have HZ := Lib.hid hnm
  clear hnm
  go_enter Tryd.func3, Tryd.ntmps3
  go_wp2_with fail
  refine (awake11_any HT.out).mono ?_
  rintro e w1 ⟨rfl, b1⟩
  have B1 := Lib.hid b1
  clear b1
  go_wp2_with fail
  refine (hsh _).mono ?_
  rintro e w2 ⟨rfl, rfl⟩
  go_wp2_with fail
  refine (hrs _).mono ?_
  rintro e w3 ⟨rfl, rfl⟩
  go_wp2_with fail
  refine (hcall.out _ B1.out).mono ?_
  rintro e w4 ⟨rfl, rfl⟩
  go_wp2_with fail
  refine (hrcall.out _ B1.out).mono ?_
  rintro e w5 ⟨rfl, rfl⟩
  go_wp2_with fail
  refine (name_any (HT.out.below B1.out) n HN.out).mono ?_
  rintro e w6 ⟨rfl, b6⟩
  have B6 := Lib.hid (B1.out.trans (b6.mono B1.out.size))
  clear b6
  go_wp2_with fail
  refine (rname_any (HT.out.below B6.out) n HN.out).mono ?_
  rintro e w7 ⟨rfl, b7⟩
  have B7 := Lib.hid (B6.out.trans (b7.mono B6.out.size))
  clear b7
  rw [HZ.out]
  rcases hE with rfl | rfl
  all_goals
    go_wp2
    go_ret
    exact ⟨rfl, B7.out⟩

theorem turn_round {t u v : Nat} (ht : t < 4096) (hu : u < 4096) (hv : v < 4096) : (((turnN t u : Nat) : Int) + ((turnN u v : Nat) : Int)) % 4096 = ((turnN t v : Nat) : Int) ∧ (((turnN t u : Nat) : Int) + ((turnN u t : Nat) : Int)) % 4096 = 0 := by
  unfold turnN; omega
theorem turn_zero {t u : Nat} (ht : t < 4096) (hu : u < 4096) : turnN t u = 0 ↔ t = u := by unfold turnN; omega
theorem place_eq {t u : Nat} (ht : t < 4096) (hu : u < 4096) : ((FloatKind.f64.format.order (plX t) (plX u) == some .eq) && (FloatKind.f64.format.order (plY t) (plY u) == some .eq)) = decide (t = u) := by
  show (isN (plX t) (partX u) && isN (plY t) (partY u)) = _
  unfold plX plY
  rw [isN_self (part_in t).1 (part_in u).1, isN_self (part_in t).2 (part_in u).2]
  by_cases h : t = u
  · subst h; simp
  · rw [decide_eq_false h]
    cases hx : decide (partX t = partX u) with
    | false => rfl
    | true =>
      cases hy : decide (partY t = partY u) with
      | false => rfl
      | true => exact absurd (part_inj ht hu (of_decide_eq_true hx) (of_decide_eq_true hy)) h

set_option maxHeartbeats 1000000 in
set_option maxRecDepth 100000 in
theorem round11_walk {w : World} (ht : Tab w) (a b c : ByteArray) (ha : a.size ≤ 140737488351232) (hb : b.size ≤ 140737488351232) (hc : c.size ≤ 140737488351232) :
    Calls Tryd.prog 5 #[.string a, .string b, .string c] w fun e w' => e = .returned (.bool true) ∧ Below w.heap.size w w' := by
  have pa := place_any a (by unfold maxLen; omega)
  have pb := place_any b (by unfold maxLen; omega)
  have pc := place_any c (by unfold maxLen; omega)
  have la := stepN_lt a
  have lb := stepN_lt b
  have lc := stepN_lt c
  generalize stepN a = t at *
  generalize stepN b = u at *
  generalize stepN c = v at *
  have tab := turn_any t u la lb
  have tbc := turn_any u v lb lc
  have tac := turn_any t v la lc
  have tba := turn_any u t lb la
  have ra := right_any t la
  have e1 := (turn_round la lb lc).1
  have e2 := (turn_round la lb lc).2
  have ez := turn_zero la lb
  have ep := place_eq la lb
  have l1 := turnN_lt t u
  have l2 := turnN_lt u v
  have l3 := turnN_lt u t
  generalize turnN t u = ab at *
  generalize turnN u v = bc at *
  generalize turnN t v = ac at *
  generalize turnN u t = ba at *
  have HZ : Hid ((((ab : Int) == 0) == ((FloatKind.f64.format.order (plX t) (plX u) == some .eq) && (FloatKind.f64.format.order (plY t) (plY u) == some .eq))) = true) := Lib.hid (by
    rw [ep]
    by_cases h : t = u
    · rw [decide_eq_true h, show ((ab : Int) == 0) = true by rw [beq_iff_eq]; have := ez.2 h; omega]; rfl
    · rw [decide_eq_false h, show ((ab : Int) == 0) = false by rw [beq_eq_false_iff_ne]; intro e; exact h (ez.1 (by omega))]; rfl)
  clear ez ep ha hb hc la lb lc
  generalize plX t = x1 at *
  generalize plY t = y1 at *
  generalize plX u = x2 at *
  generalize plY u = y2 at *
  generalize plX v = x3 at *
  generalize plY v = y3 at *
  go_enter Tryd.func5, Tryd.ntmps5
  go_wp2_with fail
  refine (awake11_any ht).mono ?_
  rintro e w1 ⟨rfl, b1⟩
  have B1 := Lib.hid b1
  clear b1 ht
  go_wp2_with fail
  refine (pa _).mono ?_
  rintro e w2 ⟨rfl, rfl⟩
  go_wp2_with fail
  refine (pb _).mono ?_
  rintro e w2 ⟨rfl, rfl⟩
  go_wp2_with fail
  refine (pc _).mono ?_
  rintro e w2 ⟨rfl, rfl⟩
  go_wp2_with fail
  refine (tab _).mono ?_
  rintro e w2 ⟨rfl, rfl⟩
  go_wp2_with fail
  refine (tbc _).mono ?_
  rintro e w2 ⟨rfl, rfl⟩
  go_wp2_with fail
  refine (tac _).mono ?_
  rintro e w2 ⟨rfl, rfl⟩
  go_wp2_with fail
  refine (ra _).mono ?_
  rintro e w2 ⟨rfl, rfl⟩
  go_wp2_with fail
  refine (tba _).mono ?_
  rintro e w2 ⟨rfl, rfl⟩
  go_wp2
  go_ret
  exact ⟨congrArg (fun b => Ending.returned (Value.bool b)) HZ.out, B1.out⟩
end Go.Proofs.YtfnbkmmfaaklnaaDoor

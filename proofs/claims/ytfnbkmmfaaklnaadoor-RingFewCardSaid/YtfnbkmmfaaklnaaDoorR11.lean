/- Layer 11: contracts of the reference's Steps, Owner, Shard, Name. -/
import Derived.Test.YtfnbkmmfaaklnaaDoorW11e
namespace Go.Proofs.YtfnbkmmfaaklnaaDoor
open Go.RowKit
set_option linter.unusedVariables false

set_option maxRecDepth 100000 in
theorem rstep_any (s : ByteArray) (hs : s.size ≤ maxLen) (w : World) :
    Calls Tryd.prog 19 #[.string s] w fun e w' => e = .returned (.int .i64 (stepN s : Nat)) ∧ w' = w := by
  have hh := rhash_any s hs
  have hA := hashA_lt s
  have hB := hashB_lt s
  obtain ⟨x, hx, hm1, hm2⟩ := mix_go _ _ hA hB
  unfold stepN at *
  generalize hashA s = a at *
  generalize hashB s = b at *
  have hlt : (a ^^^ (b / 128)) % 4096 < 4096 := Nat.mod_lt _ (by decide)
  generalize (a ^^^ (b / 128)) % 4096 = t at *
  go_enter Tryd.func19, Tryd.ntmps19
  go_wp2_with fail
  refine (hh _).mono ?_
  rintro e w1 ⟨rfl, rfl⟩
  go_wp2
  go_ret
  exact ⟨rfl, rfl⟩

set_option maxRecDepth 100000 in
set_option maxHeartbeats 1000000 in
theorem rowner_any (a : Option Addr) (c : Nat) (ks : List ByteArray) (key : ByteArray) (w : World) (h : Row1 w a ks.length (fun i => .string (ks.getD i ByteArray.empty))) (hs : ∀ i, (ks.getD i ByteArray.empty).size ≤ maxLen) (hk : key.size ≤ maxLen) :
    Calls Tryd.prog 11 #[.slice a ks.length c, .string key] w fun e w' => e = .returned (.string (ownO (farN key) ks)) ∧ w' = w := by
  have hmax := h.max
  have H := Lib.hid h
  have HS := Lib.hid hs
  clear h hs
  have hpk := rstep_any key hk
  have HF : Hid (ownO (farN key) ks = (foldO (farN key) (ks.take ks.length)).1) := by rw [List.take_length]; exact Lib.hid rfl
  go_enter Tryd.func11, Tryd.ntmps11
  go_wp2
  go_loop [5, 6, 7] (fun o f i => ∃ (k : Nat) (O : ByteArray) (F : Nat), k ≤ ks.length ∧ i = .int .i64 (k : Int) ∧ o = .string O ∧ f = .int .i64 (F : Int) ∧ F ≤ 4096 ∧ Hid (foldO (farN key) (ks.take k) = (O, F))) (fun _ _ i => ks.length - (intOf i).toNat)
  case atStart => exact ⟨0, _, 4096, by omega, rfl, rfl, rfl, by omega, rfl⟩
  case round =>
    obtain ⟨k, O, F, hk2, rfl, rfl, rfl, hF, HR⟩ := hrel
    by_cases hlt : k < ks.length
    · obtain ⟨b, off, ha, hbl, hc⟩ := H.out.at hlt
      subst ha
      have hgd : ks.getD k ByteArray.empty = ks[k] := by simp [List.getD, hlt]
      have hsz := HS.out k
      have HN := Lib.hid (fold_next (d := farN key) hlt)
      rw [hgd] at hc hsz
      generalize ks[k] = s at *
      have hp := rstep_any s hsz
      have hd : Hid (((stepN s : Nat) : Int) - ((stepN key : Nat) : Int) + 4096 = ((stepN s + 4096 - stepN key : Nat) : Int) ∧ (((stepN s + 4096 - stepN key : Nat) : Int) % 4096 = ((farN key s : Nat) : Int))) := Lib.hid ⟨by have := stepN_lt key; omega, by unfold farN turnN; omega⟩
      have h1 := stepN_lt s
      have h2 := stepN_lt key
      have hdl := farN_lt key s
      generalize hD : farN key s = D at *
      generalize stepN s = x at *
      generalize stepN key = y at *
      have hd2 : ((x : Int) - (y : Int) + 4096) % 4096 = (D : Int) := by rw [hd.out.1, hd.out.2]
      have HD := Lib.hid hD
      clear hD hd hgd hsz
      go_wp2_with fail
      refine (hp _).mono ?_
      rintro e w1 ⟨rfl, rfl⟩
      go_wp2_with fail
      refine (hpk _).mono ?_
      rintro e w1 ⟨rfl, rfl⟩
      rcases Nat.lt_trichotomy D F with hc1 | hc1 | hc1
      · have E : Hid (foldO (farN key) (ks.take (k + 1)) = (s, D)) := Lib.hid (by rw [HN.out, HR.out, stepO_to (.inl (by rw [HD.out]; exact hc1)), HD.out])
        go_wp2
        go_round
        case rel => exact ⟨k + 1, s, D, by omega, by go_num, rfl, by first | rfl | rw [hd2], by omega, E⟩
        case measure => simp [intOf]; omega
      · subst hc1
        cases hb : Op.bytesLess s.toList O.toList with
        | true =>
          have E : Hid (foldO (farN key) (ks.take (k + 1)) = (s, D)) := Lib.hid (by rw [HN.out, HR.out, stepO_to (.inr ⟨HD.out, hb⟩), HD.out])
          go_wp2
          go_round
          case rel => exact ⟨k + 1, s, D, by omega, by go_num, rfl, by first | rfl | rw [hd2], by omega, E⟩
          case measure => simp [intOf]; omega
        | false =>
          have E : Hid (foldO (farN key) (ks.take (k + 1)) = (O, D)) := Lib.hid (by rw [HN.out, HR.out, stepO_no (by rw [HD.out]; omega) (fun _ => hb)])
          go_wp2
          go_round
          case rel => exact ⟨k + 1, O, D, by omega, by go_num, rfl, rfl, by omega, E⟩
          case measure => simp [intOf]; omega
      · have E : Hid (foldO (farN key) (ks.take (k + 1)) = (O, F)) := Lib.hid (by rw [HN.out, HR.out, stepO_no (by rw [HD.out]; omega) (fun e => by rw [HD.out] at e; omega)])
        go_wp2
        go_round
        case rel => exact ⟨k + 1, O, F, by omega, by go_num, rfl, rfl, by omega, E⟩
        case measure => simp [intOf]; omega
    · obtain rfl : k = ks.length := by omega
      go_wp2
      go_ret
      exact ⟨by rw [HF.out, HR.out]; rfl, rfl⟩

set_option maxRecDepth 100000 in
theorem rshard_any (s : ByteArray) (n : Int) (hs : s.size ≤ maxLen) (hn : (Lit.int .i64 n).wf = true) (w : World) :
    Calls Tryd.prog 9 #[.string s, .int .i64 n] w fun e w' => e = .returned (.tuple #[.int .i64 (shardN s n), .int .i64 (shardE n)]) ∧ w' = w := by
  have hh := rhash_any s hs
  have hA := hashA_lt s
  have hnb := bounds_i64 hn
  clear hn
  unfold shardN shardE
  generalize hashA s = a at *
  generalize hashB s = b at *
  by_cases h1 : n < 1
  · rw [if_pos (.inl h1), if_pos (.inl h1)]
    go_enter Tryd.func9, Tryd.ntmps9
    go_wp2
    go_ret2
    exact ⟨rfl, rfl⟩
  · by_cases h2 : 16 < n
    · rw [if_pos (.inr h2), if_pos (.inr h2)]
      go_enter Tryd.func9, Tryd.ntmps9
      go_wp2
      go_ret2
      exact ⟨rfl, rfl⟩
    · rw [if_neg (by omega), if_neg (by omega)]
      have e1 : (a : Int) / 256 = ((a / 256 : Nat) : Int) := by omega
      have hq : a / 256 < 16777216 := by omega
      generalize a / 256 = q at *
      obtain ⟨m, rfl⟩ : ∃ m : Nat, n = (m : Int) := ⟨n.toNat, by omega⟩
      go_enter Tryd.func9, Tryd.ntmps9
      go_wp2_with fail
      refine (hh _).mono ?_
      rintro e w1 ⟨rfl, rfl⟩
      go_wp2
      go_ret2
      exact ⟨rfl, rfl⟩

set_option maxRecDepth 100000 in
theorem rname_any {w : World} (ht : Tab w) (n : Int) (hn : (Lit.int .i64 n).wf = true) :
    Calls Tryd.prog 13 #[.int .i64 n] w fun e w' => e = .returned (.string (nameB n)) ∧ Below w.heap.size w w' := by
  have hnb := bounds_i64 hn
  clear hn
  obtain ⟨m, hm⟩ : ∃ m, max n 0 = m := ⟨_, rfl⟩
  have h0 : 0 ≤ m := by omega
  have h1 : m ≤ 9223372036854775807 := by omega
  have hc := itoa_any11 ht m h0 h1
  have hl := Lib.itoa_length_le m (by omega) h1
  have HN : Hid (nameB n = ⟨#[115, 104, 97, 114, 100, 32]⟩ ++ ⟨(Lib.itoa m).toArray⟩) := Lib.hid (by unfold nameB; rw [hm])
  have hz : (⟨(Lib.itoa m).toArray⟩ : ByteArray).size ≤ 21 := by show (Lib.itoa m).toArray.size ≤ 21; simpa using hl
  generalize (⟨(Lib.itoa m).toArray⟩ : ByteArray) = t at *
  go_enter Tryd.func13, Tryd.ntmps13
  go_wp2_with fail
  refine hc.mono ?_
  rintro e w1 ⟨rfl, b1⟩
  go_wp2
  go_ret
  exact ⟨by rw [HN.out]; rfl, b1⟩
end Go.Proofs.YtfnbkmmfaaklnaaDoor

/- Layer 11: the contracts of the program's Owner and Shard. -/
import Derived.Test.YtfnbkmmfaaklnaaDoorW11c
namespace Go.Proofs.YtfnbkmmfaaklnaaDoor
open Go.RowKit
set_option linter.unusedVariables false

/-- How far it is from a key to a host. -/
def farN (key h : ByteArray) : Nat := turnN (stepN key) (stepN h)
theorem farN_lt (key h : ByteArray) : farN key h < 4096 := Nat.mod_lt _ (by decide)
theorem stepO_to {d : ByteArray → Nat} {o h : ByteArray} {f : Nat} (hc : d h < f ∨ (d h = f ∧ Op.bytesLess h.toList o.toList = true)) : stepO d (o, f) h = (h, d h) := if_pos hc
theorem stepO_no {d : ByteArray → Nat} {o h : ByteArray} {f : Nat} (hc : ¬ d h < f) (h2 : d h = f → Op.bytesLess h.toList o.toList = false) : stepO d (o, f) h = (o, f) := if_neg fun e => by
  rcases e with e | ⟨e, e2⟩
  · exact hc e
  · have := h2 e; unfold befB at e2; rw [this] at e2; cases e2

set_option maxRecDepth 100000 in
set_option maxHeartbeats 1000000 in
theorem owner_any (a : Option Addr) (c : Nat) (ks : List ByteArray) (key : ByteArray) (w : World) (h : Row1 w a ks.length (fun i => .string (ks.getD i ByteArray.empty))) (hs : ∀ i, (ks.getD i ByteArray.empty).size ≤ maxLen) (hk : key.size ≤ maxLen) :
    Calls Tryd.prog 10 #[.slice a ks.length c, .string key] w fun e w' => e = .returned (.string (ownO (farN key) ks)) ∧ w' = w := by
  have hmax := h.max
  have H := Lib.hid h
  have HS := Lib.hid hs
  clear h hs
  have hpk := place_any key hk
  have HF : Hid (ownO (farN key) ks = (foldO (farN key) (ks.take ks.length)).1) := by rw [List.take_length]; exact Lib.hid rfl
  go_enter Tryd.func10, Tryd.ntmps10
  go_wp2_with fail
  refine (hpk _).mono ?_
  rintro e w1 ⟨rfl, rfl⟩
  go_wp2
  go_loop [6, 7, 15] (fun o f i => ∃ (k : Nat) (O : ByteArray) (F : Nat), k ≤ ks.length ∧ i = .int .i64 (k : Int) ∧ o = .string O ∧ f = .int .i64 (F : Int) ∧ F ≤ 4096 ∧ Hid (foldO (farN key) (ks.take k) = (O, F))) (fun _ _ i => ks.length - (intOf i).toNat)
  case atStart => exact ⟨0, _, 4096, by omega, rfl, rfl, rfl, by omega, rfl⟩
  case round =>
    obtain ⟨k, O, F, hk2, rfl, rfl, rfl, hF, HR⟩ := hrel
    by_cases hlt : k < ks.length
    · obtain ⟨b, off, ha, hbl, hc⟩ := H.out.at hlt
      subst ha
      have hgd : ks.getD k ByteArray.empty = ks[k] := by simp [List.getD, hlt]
      have hsz := HS.out k
      have HN := Lib.hid (fold_next (d := farN key) hlt)
      rw [hgd] at hc hsz
      generalize ks[k] = s at *
      have hp := place_any s hsz
      have ht := turn_any (stepN key) (stepN s) (stepN_lt _) (stepN_lt _)
      have hd : Hid (turnN (stepN key) (stepN s) = farN key s) := Lib.hid rfl
      have hdl := farN_lt key s
      rw [hd.out] at ht
      generalize hD : farN key s = D at *
      generalize plX (stepN s) = x1 at *
      generalize plY (stepN s) = y1 at *
      generalize plX (stepN key) = x0 at *
      generalize plY (stepN key) = y0 at *
      have HD := Lib.hid hD
      clear hD hd hgd hsz
      go_wp2_with fail
      refine (hp _).mono ?_
      rintro e w1 ⟨rfl, rfl⟩
      go_wp2_with fail
      refine (ht _).mono ?_
      rintro e w1 ⟨rfl, rfl⟩
      rcases Nat.lt_trichotomy D F with hc1 | hc1 | hc1
      · have E : Hid (foldO (farN key) (ks.take (k + 1)) = (s, D)) := Lib.hid (by rw [HN.out, HR.out, stepO_to (.inl (by rw [HD.out]; exact hc1)), HD.out])
        go_wp2
        go_round
        case rel => exact ⟨k + 1, s, D, by omega, by go_num, rfl, rfl, by omega, E⟩
        case measure => simp [intOf]; omega
      · subst hc1
        cases hb : Op.bytesLess s.toList O.toList with
        | true =>
          have E : Hid (foldO (farN key) (ks.take (k + 1)) = (s, D)) := Lib.hid (by rw [HN.out, HR.out, stepO_to (.inr ⟨HD.out, hb⟩), HD.out])
          go_wp2
          go_round
          case rel => exact ⟨k + 1, s, D, by omega, by go_num, rfl, rfl, by omega, E⟩
          case measure => simp [intOf]; omega
        | false =>
          have E : Hid (foldO (farN key) (ks.take (k + 1)) = (O, D)) := Lib.hid (by rw [HN.out, HR.out, stepO_no (by rw [HD.out]; omega) (fun _ => hb)])
          go_wp2
          go_round
          case rel => exact ⟨k + 1, O, D, by omega, by go_num, rfl, rfl, by omega, E⟩
          case measure => simp [intOf]; omega
      · have E : Hid (foldO (farN key) (ks.take (k + 1)) = (O, F)) := Lib.hid (by rw [HN.out, HR.out, stepO_no (by rw [HD.out]; omega) (fun e => by rw [HD.out] at e; omega)])
        go_wp2
        go_round
        case rel => exact ⟨k + 1, O, F, by omega, by go_num, rfl, rfl, by omega, E⟩
        case measure => simp [intOf]; omega
    · obtain rfl : k = ks.length := by omega
      go_wp2
      go_ret
      exact ⟨by rw [HF.out, HR.out]; rfl, rfl⟩

/-- A workflow's shard. -/
def shardN (s : ByteArray) (n : Int) : Int := if n < 1 ∨ 16 < n then 0 else (((hashA s / 256 : Nat) : Int) % n)
def shardE (n : Int) : Int := if n < 1 ∨ 16 < n then 1 else 0
set_option maxRecDepth 100000 in
theorem shard_any (s : ByteArray) (n : Int) (hs : s.size ≤ maxLen) (hn : (Lit.int .i64 n).wf = true) (w : World) :
    Calls Tryd.prog 8 #[.string s, .int .i64 n] w fun e w' => e = .returned (.tuple #[.int .i64 (shardN s n), .int .i64 (shardE n)]) ∧ w' = w := by
  have hh := hash_any s hs
  have hA := hashA_lt s
  have hnb := bounds_i64 hn
  clear hn
  unfold shardN shardE
  generalize hashA s = a at *
  generalize hashB s = b at *
  by_cases h1 : n < 1
  · rw [if_pos (.inl h1), if_pos (.inl h1)]
    go_enter Tryd.func8, Tryd.ntmps8
    go_wp2
    go_ret2
    exact ⟨rfl, rfl⟩
  · by_cases h2 : 16 < n
    · rw [if_pos (.inr h2), if_pos (.inr h2)]
      go_enter Tryd.func8, Tryd.ntmps8
      go_wp2
      go_ret2
      exact ⟨rfl, rfl⟩
    · rw [if_neg (by omega), if_neg (by omega)]
      have e1 : (a : Int) / 256 = ((a / 256 : Nat) : Int) := by omega
      have hq : a / 256 < 16777216 := by omega
      generalize a / 256 = q at *
      obtain ⟨m, rfl⟩ : ∃ m : Nat, n = (m : Int) := ⟨n.toNat, by omega⟩
      go_enter Tryd.func8, Tryd.ntmps8
      go_wp2_with fail
      refine (hh _).mono ?_
      rintro e w1 ⟨rfl, rfl⟩
      go_wp2
      go_ret2
      exact ⟨rfl, rfl⟩
end Go.Proofs.YtfnbkmmfaaklnaaDoor

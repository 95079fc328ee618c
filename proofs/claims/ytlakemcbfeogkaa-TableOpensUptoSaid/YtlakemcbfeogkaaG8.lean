/- Joined: R07c R07d. -/
import Derived.Test.YtlakemcbfeogkaaG7
import Derived.Test.YtlakemcbfeogkaaG6
import Derived.Test.YtlakemcbfeogkaaG2

namespace Go.Proofs.Ytlakemcbfeogkaa
open Go.RowKit
set_option linter.unusedVariables false

theorem ba_len (s : ByteArray) : s.data.toList.length = s.size := by simp
theorem wf_small {M : Nat} (h : M ≤ 8192) : (Lit.int .i64 (M : Int)).wf = true := by
  unfold Lit.wf
  simp [IntKind.min, IntKind.max, IntKind.signed, IntKind.bits]
  omega
theorem ownsRow_at {w : World} {base : Nat} {e : TypeId} {size : Nat} {v : Value} {n : Nat} {xs : List Value} (h : w.ownsRow base e size v n xs) : ∃ a c, v = .slice a n c := row_slice h
theorem one_text (s : ByteArray) : ∀ u ∈ [Value.string s], u.oneCell' = true := by intro u hu; simp at hu; subst hu; rfl
theorem cell_text (W : World) (s : ByteArray) (t : TypeId) : ∀ j u, [Value.string s][j]? = some u → (W.alloc (.cells #[.string s] t)).cell? ((⟨W.heap.size, 0, none⟩ : Addr).add j) = some u := new_one W (.string s) t
def keysOf (l : List PairS) : List ByteArray := l.map PairS.key
theorem keys_next {l : List PairS} {i : Nat} (h : i < l.length) : txs6 (keysOf (l.take (i + 1))) = txs6 (keysOf (l.take i)) ++ [.string l[i].key] := by
  rw [List.take_succ_eq_append_getElem h]
  unfold txs6 keysOf
  rw [List.map_append, List.map_append]
  rfl

/-- Behind the check: the keys in a row. -/
def CheckEnd (w : World) (l : List PairS) (kv : Value) (wr : World) : Prop :=
  wr.ownsRow w.heap.size 9 1 kv l.length (txs6 (keysOf l)) ∧ Below w.heap.size w wr

set_option maxHeartbeats 4000000 in
set_option maxRecDepth 100000 in
theorem rbuild_any {w : World} {a : Option Addr} {c : Nat} {l : List PairS} (h : ReadP w (.slice a l.length c) l) (hn : l.length ≤ 3518437208780) :
    Calls Try.prog 9 #[.slice a l.length c] w fun e w' => e = .returned (.tuple #[.string (buildS l), .int .i64 (buildE l : Nat)]) ∧ Below w.heap.size w w' := by
  obtain ⟨i0, hi, hz0, hz1, hz2⟩ := info_parts infoStr6
  by_cases hne : l = []
  · have e1 : buildE l = 1 := by unfold buildE; rw [if_pos hne]
    have e2 : buildS l = ⟨#[]⟩ := by unfold buildS; rw [if_neg (by omega)]
    have hl0 : l.length = 0 := by rw [hne]; rfl
    rw [e1, e2]
    rw [hl0] at *
    go_enter Try.func9, Try.ntmps9
    go_wp2
    go_ret2
    exact ⟨rfl, Below.refl _ _⟩
  have hl1 : 0 < l.length := List.length_pos_iff.2 hne
  have HE : Hid (∀ i, i ≤ l.length → badB ⟨#[]⟩ l = badAt l i → badAt l i ≠ 0 → buildE l = badAt l i ∧ buildS l = ⟨#[]⟩) := fun i hi e h => by
    have e1 : buildE l = badAt l i := by unfold buildE; rw [if_neg hne, e, if_pos h]
    exact ⟨e1, by unfold buildS; rw [if_neg (by omega)]⟩
  have H := Lib.hid h
  have hg0 : ((l.length : Int) == 0) = false := by simp; omega
  clear h
  go_enter Try.func9, Try.ntmps9
  go_wp2
  go_loopw [4, 5, 6] (fun sv kv iv wr => ∃ i : Nat, i ≤ l.length ∧ iv = .int .i64 (i : Int) ∧ sv = .string (lastAt l i) ∧ wr.ownsRow w.heap.size 9 1 kv i (txs6 (keysOf (l.take i))) ∧ Hid (badB ⟨#[]⟩ l = badAt l i ∧ Below w.heap.size w wr))
    (fun _ _ iv _ => l.length - (intOf iv).toNat)
  case atStart => exact ⟨0, by omega, rfl, rfl, World.ownsRow_nil _ _ _ _, badAt_zero l, Below.refl _ _⟩
  case round =>
    obtain ⟨i, hil, rfl, rfl, hown, HI⟩ := hrel
    by_cases hlt : i < l.length
    · obtain ⟨b, o, rfl, q0, q1, q2⟩ := H.out.in HI.out.2 hlt
      have HC := Lib.hid (badAt_cons hlt)
      have HKN := Lib.hid (keys_next hlt)
      have HLN := Lib.hid (lastAt_next hlt)
      generalize l[i] = X at *
      generalize lastAt l i = L at *
      obtain ⟨xk, xv, xg⟩ := X
      simp only at q0 q1 q2 HLN HKN HC
      have hlq := leq_any xk L
      have hnew := heap_alloc_new wr (.cells #[.string xk, .string xv, .bool xg] 39)
      have hB1 := Lib.hid (HI.out.2.alloc HI.out.2.size (.cells #[.string xk, .string xv, .bool xg] 39))
      have hows := hown.alloc (.cells #[.string xk, .string xv, .bool xg] 39)
      have hws := HI.out.2.size
      have p0 : (wr.alloc (.cells #[.string xk, .string xv, .bool xg] 39)).cell? ⟨wr.heap.size, 0, none⟩ = some (.string xk) := by rw [block_cell hnew]; rfl
      have p1 : (wr.alloc (.cells #[.string xk, .string xv, .bool xg] 39)).cell? ⟨wr.heap.size, 1, none⟩ = some (.string xv) := by rw [block_cell hnew]; rfl
      have p2 : (wr.alloc (.cells #[.string xk, .string xv, .bool xg] 39)).cell? ⟨wr.heap.size, 2, none⟩ = some (.bool xg) := by rw [block_cell hnew]; rfl
      have HBI := Lib.hid HI.out.1
      have hmeas : l.length - (intOf (.int .i64 ((i : Int) + 1))).toNat < l.length - (intOf (.int .i64 (i : Int))).toNat := by simp [intOf]; omega
      go_upto_region 9 with (fail)
      clear q0 q1 q2 HI hnew hown
      generalize wr.alloc (.cells #[.string xk, .string xv, .bool xg] 39) = w1 at *
      generalize wr.heap.size = pb at *
      have hws1 := hB1.out.size
      by_cases c1 : befB L xk = false
      · have hE := HE.out i hil HBI.out (by rw [HC.out, if_pos (.inl c1)]; omega)
        rw [HC.out, if_pos (.inl c1)] at hE
        have HEE := Lib.hid hE
        clear hows HC HKN HLN hE HE hi
        go_wp2
        go_ret2
        exact ⟨by rw [HEE.out.1, HEE.out.2]; rfl, hB1.out⟩
      · have c1 : befB L xk = true := by simpa using c1
        by_cases c2 : xg = true ∧ xv.size ≠ 0
        · have hE := HE.out i hil HBI.out (by rw [HC.out, if_pos (.inr c2)]; omega)
          rw [HC.out, if_pos (.inr c2)] at hE
          have HEE := Lib.hid hE
          obtain ⟨c2, c3⟩ := c2
          subst c2
          have hve : xv.toList.isEmpty = false := by
            have : ¬ xv.toList = [] := fun e => c3 (toList_nil.1 e)
            simpa using this
          clear hows HC HKN HLN hE HE hi
          go_wp2
          go_ret2
          exact ⟨by rw [HEE.out.1, HEE.out.2]; rfl, hB1.out⟩
        · have hgv : xg = false ∨ xv.toList.isEmpty = true := by
            cases hxg : xg with
            | false => exact .inl rfl
            | true =>
              refine .inr ?_
              have : xv.size = 0 := by
                rw [hxg] at c2
                simpa using c2
              rw [toList_nil.2 this]; rfl
          by_cases c3 : 64 < xk.size ∨ 8192 < xv.size
          · have hE := HE.out i hil HBI.out (by rw [HC.out, if_neg (by simp only [not_or]; exact ⟨by rw [c1]; simp, c2⟩), if_pos c3]; omega)
            rw [HC.out, if_neg (by simp only [not_or]; exact ⟨by rw [c1]; simp, c2⟩), if_pos c3] at hE
            have HEE := Lib.hid hE
            have hc3 : (64 : Int) < (xk.size : Int) ∨ ((¬ (64 : Int) < (xk.size : Int)) ∧ (8192 : Int) < (xv.size : Int)) := by omega
            clear hows HC HKN HLN hE HE hi c2 c3
            rcases hgv with hgv | hgv <;> rcases hc3 with hc3 | ⟨hc3, hc4⟩
            · subst hgv
              go_wp2
              go_ret2
              exact ⟨by rw [HEE.out.1, HEE.out.2]; rfl, hB1.out⟩
            · subst hgv
              go_wp2
              go_ret2
              exact ⟨by rw [HEE.out.1, HEE.out.2]; rfl, hB1.out⟩
            · cases xg
              · go_wp2
                go_ret2
                exact ⟨by rw [HEE.out.1, HEE.out.2]; rfl, hB1.out⟩
              · go_wp2
                go_ret2
                exact ⟨by rw [HEE.out.1, HEE.out.2]; rfl, hB1.out⟩
            · cases xg
              · go_wp2
                go_ret2
                exact ⟨by rw [HEE.out.1, HEE.out.2]; rfl, hB1.out⟩
              · go_wp2
                go_ret2
                exact ⟨by rw [HEE.out.1, HEE.out.2]; rfl, hB1.out⟩
          · have hBN : Hid (badB ⟨#[]⟩ l = badAt l (i + 1)) := by
              show _ = _
              rw [HBI.out, HC.out, if_neg (by simp only [not_or]; exact ⟨by rw [c1]; simp, c2⟩), if_neg c3]
            have hc3 : ¬ (64 : Int) < (xk.size : Int) := by omega
            have hc4 : ¬ (8192 : Int) < (xv.size : Int) := by omega
            clear HC HE c2 c3
            rcases hgv with hgv | hgv
            · subst hgv
              go_wp2_with (at_builtin; go_loud (refine wpList_append_own _ rfl (.tmp 57) (.tmp 60) 69 rfl w.heap.size 9 i0 (.string ⟨#[]⟩) 1 16 Try.underlying69 hi hz0 hz1 hz2 rfl (by decide) _ _ _ rfl (hows.alloc _) ⟨w1.heap.size, 0, none⟩ 1 1 [.string xk] rfl rfl (cell_text _ _ _) (one_text xk) ?a4 ?a5 ?a6 ?_))
              case a4 => unfold maxLen; omega
              case a5 => omega
              case a6 => first | omega | (simp; omega)
              intro v' w2 hown' hgrow _
              have hb2 := Lib.hid ((hB1.out.alloc hB1.out.size _).grown hgrow (by simp; omega) (fun j hj => (hows.lt j hj).1))
              clear hgrow hi hows
              go_wp2
              go_roundw
              case rel => exact ⟨i + 1, by omega, by go_num, by rw [HLN.out], by rw [HKN.out]; exact hown', hBN.out, hb2.out⟩
              case measure => exact hmeas
            · cases xg
              · go_wp2_with (at_builtin; go_loud (refine wpList_append_own _ rfl (.tmp 57) (.tmp 60) 69 rfl w.heap.size 9 i0 (.string ⟨#[]⟩) 1 16 Try.underlying69 hi hz0 hz1 hz2 rfl (by decide) _ _ _ rfl (hows.alloc _) ⟨w1.heap.size, 0, none⟩ 1 1 [.string xk] rfl rfl (cell_text _ _ _) (one_text xk) ?b4 ?b5 ?b6 ?_))
                case b4 => unfold maxLen; omega
                case b5 => omega
                case b6 => first | omega | (simp; omega)
                intro v' w2 hown' hgrow _
                have hb2 := Lib.hid ((hB1.out.alloc hB1.out.size _).grown hgrow (by simp; omega) (fun j hj => (hows.lt j hj).1))
                clear hgrow hi hows
                go_wp2
                go_roundw
                case rel => exact ⟨i + 1, by omega, by go_num, by rw [HLN.out], by rw [HKN.out]; exact hown', hBN.out, hb2.out⟩
                case measure => exact hmeas
              · go_wp2_with (at_builtin; go_loud (refine wpList_append_own _ rfl (.tmp 57) (.tmp 60) 69 rfl w.heap.size 9 i0 (.string ⟨#[]⟩) 1 16 Try.underlying69 hi hz0 hz1 hz2 rfl (by decide) _ _ _ rfl (hows.alloc _) ⟨w1.heap.size, 0, none⟩ 1 1 [.string xk] rfl rfl (cell_text _ _ _) (one_text xk) ?d4 ?d5 ?d6 ?_))
                case d4 => unfold maxLen; omega
                case d5 => omega
                case d6 => first | omega | (simp; omega)
                intro v' w2 hown' hgrow _
                have hb2 := Lib.hid ((hB1.out.alloc hB1.out.size _).grown hgrow (by simp; omega) (fun j hj => (hows.lt j hj).1))
                clear hgrow hi hows
                go_wp2
                go_roundw
                case rel => exact ⟨i + 1, by omega, by go_num, by rw [HLN.out], by rw [HKN.out]; exact hown', hBN.out, hb2.out⟩
                case measure => exact hmeas
    · obtain rfl : i = l.length := by omega
      have hb0 : badB ⟨#[]⟩ l = 0 := by rw [HI.out.1, badAt_all]
      obtain ⟨hrise, hfine⟩ := (bad_zero l).1 hb0
      rw [List.take_length] at hown
      have HOWN := Lib.hid (And.intro hown HI.out.2)
      have HFI := Lib.hid (And.intro hrise hfine)
      have hws0 := HI.out.2.size
      have HBZ := Lib.hid hb0
      have HKL := ownsRow_at hown
      obtain ⟨ka, kc, rfl⟩ := HKL
      clear hown HI HE hb0 hrise hfine
      generalize wr = wk at *
      go_wp2
      go_loopw [8, 9, 10, 11, 12] (fun ov fv bv nv iv wx => ∃ i : Nat, i ≤ l.length ∧ iv = .int .i64 (i : Int) ∧ ov = .string ⟨(framesL (blocksL l (doneN l.length i))).toArray⟩ ∧ fv = .string ⟨(enct (firstsK l (partsN i))).toArray⟩ ∧ bv = .string ⟨(blockL (openB l i)).toArray⟩ ∧ nv = .int .i64 (partsN i : Nat) ∧ Hid (Below wk.heap.size wk wx))
        (fun _ _ _ _ iv _ => l.length - (intOf iv).toNat)
      case atStart => exact ⟨0, by omega, rfl, by rw [doneN_zero hl1]; rfl, rfl, by rw [openB_zero]; rfl, rfl, Below.refl _ _⟩
      case round =>
        obtain ⟨i, hil2, rfl, rfl, rfl, rfl, rfl, HI⟩ := hrel
        by_cases hlt2 : i < l.length
        · obtain ⟨b, o, rfl, q0, q1, q2⟩ := H.out.in (HOWN.out.2.trans (HI.out.mono hws0)) hlt2
          have hmeas : l.length - (intOf (.int .i64 ((i : Int) + 1))).toNat < l.length - (intOf (.int .i64 (i : Int))).toNat := by simp [intOf]; omega
          have hxf := HFI.out.2 l[i] (List.getElem_mem hlt2)
          have hF1 := fun h0 => firsts_next hlt2 h0
          have hF0 := fun h0 => partsN_same (i := i) h0
          have hP1 := fun h0 => (partsN_first (i := i) h0).1
          have hEnd := openB_ends hlt2
          have hGo := openB_goes hlt2
          have hz1 := frames_len HFI.out.2 (doneN l.length i)
          have hz2 := firsts_len HFI.out.2 (partsN i)
          have hz3 := block8_len (openB_fine HFI.out.2 i) (by rw [openB_len l i hlt2]; omega)
          have hd : doneN l.length i = i / 8 := by unfold doneN; rw [if_neg (by omega)]
          have hpf := part_fine HFI.out.2 (i / 8)
          have hp8 : (partP l (i / 8)).length ≤ 8 := by rw [partP_len]; omega
          have hz4 := block_small hpf hp8
          have hz5 := frameL_le hz4
          have hpn : partsN i ≤ 439804651099 := by unfold partsN; omega
          have hpr := pairL_len hxf
          have hxs := (fine_iff _).1 hxf
          have HPR := Lib.hid (fun w => rpair_any hxf w)
          have HT := Lib.hid (fun w => rtext_any l[i].key (by omega) w)
          have hWL := fun w => rwrap_any ⟨(blockL (partP l (i / 8))).toArray⟩ (by rw [tx_size]; exact hz4) w
          have hfn := frames_next (l := l) (i / 8)
          rw [hd]
          rw [hd] at hz1
          obtain ⟨r, hrr⟩ : ∃ r, i % 8 = r := ⟨_, rfl⟩
          obtain ⟨O, eO⟩ : ∃ O : ByteArray, (⟨(framesL (blocksL l (i / 8))).toArray⟩ : ByteArray) = O := ⟨_, rfl⟩
          obtain ⟨Fs, eF⟩ : ∃ O : ByteArray, (⟨(enct (firstsK l (partsN i))).toArray⟩ : ByteArray) = O := ⟨_, rfl⟩
          obtain ⟨Bk, eB⟩ : ∃ O : ByteArray, (⟨(blockL (openB l i)).toArray⟩ : ByteArray) = O := ⟨_, rfl⟩
          obtain ⟨T, eT⟩ : ∃ O : ByteArray, (⟨(putL l[i].key.size ++ l[i].key.data.toList).toArray⟩ : ByteArray) = O := ⟨_, rfl⟩
          obtain ⟨P, eP⟩ : ∃ O : ByteArray, (⟨(pairL l[i]).toArray⟩ : ByteArray) = O := ⟨_, rfl⟩
          obtain ⟨W, eW⟩ : ∃ O : ByteArray, (⟨(frameL (blockL (partP l (i / 8)))).toArray⟩ : ByteArray) = O := ⟨_, rfl⟩
          have hl1' := putL_len10 (small8 (n := l[i].key.size) (by omega))
          have hl2' : l[i].key.data.toList.length = l[i].key.size := by simp
          have zO : O.size ≤ 70100 * (i / 8) := by rw [← eO, tx_size]; exact hz1
          have zF : Fs.size ≤ 80 * partsN i := by rw [← eF, tx_size]; exact hz2
          have zB : Bk.size ≤ 70000 := by rw [← eB, tx_size]; exact hz3
          have zT : T.size ≤ 74 := by rw [← eT, tx_size, List.length_append]; omega
          have zP : P.size ≤ 8300 := by rw [← eP, tx_size]; omega
          have zW : W.size ≤ 1048600 := by rw [← eW, tx_size]; omega
          have HF1A : Hid (r = 0 → (⟨(enct (firstsK l (partsN (i + 1)))).toArray⟩ : ByteArray) = Fs ++ T) := fun h => by rw [hF1 (by omega), ← eF, ← eT, tx_app]
          have HF0A : Hid (¬ r = 0 → (⟨(enct (firstsK l (partsN (i + 1)))).toArray⟩ : ByteArray) = Fs ∧ partsN (i + 1) = partsN i) := fun h => ⟨by rw [hF0 (by omega), eF], hF0 (by omega)⟩
          have HP1 : Hid (r = 0 → partsN (i + 1) = partsN i + 1) := fun h => hP1 (by omega)
          have HEND : Hid ((r = 7 ∨ i + 1 = l.length) → (⟨(framesL (blocksL l (doneN l.length (i + 1)))).toArray⟩ : ByteArray) = O ++ W ∧ (⟨(blockL (openB l (i + 1))).toArray⟩ : ByteArray) = ⟨#[]⟩ ∧ ∀ w, Calls Try.prog 31 #[.string (Bk ++ P)] w fun e w' => e = .returned (.tuple #[.string W, .int .i64 0]) ∧ Below w.heap.size w w') := fun h => by
            obtain ⟨e1, e2, e3, e4⟩ := hEnd (by omega)
            refine ⟨by rw [e2, hfn, ← eO, ← eW, tx_app], by rw [e4]; rfl, fun w => ?_⟩
            have e5 : Bk ++ P = ⟨(blockL (partP l (i / 8))).toArray⟩ := by rw [← eB, ← eP, tx_app, ← blockL_snoc, e1]
            have := hWL w
            rw [← e5] at this
            have e6 : frameL (Bk ++ P).data.toList = frameL (blockL (partP l (i / 8))) := by rw [e5]
            rw [e6, eW] at this
            exact this
          have HGOES : Hid (¬ r = 7 → ¬ i + 1 = l.length → (⟨(framesL (blocksL l (doneN l.length (i + 1)))).toArray⟩ : ByteArray) = O ∧ (⟨(blockL (openB l (i + 1))).toArray⟩ : ByteArray) = Bk ++ P) := fun h h2 => by
            obtain ⟨e1, e2⟩ := hGo (by omega) h2
            exact ⟨by rw [e2, hd, ← eO], by rw [e1, blockL_snoc, ← eB, ← eP, tx_app]⟩
          have HT' := Lib.hid HT.out
          simp only [eT] at HT
          simp only [eP] at HPR
          simp only [eO, eF, eB]
          clear HT' hWL hfn hEnd hGo hF1 hF0 hP1 eO eF eB eT eP eW hz1 hz2 hz3 hz4 hz5 hpr hl1' hl2' hpf hp8 hd
          generalize l[i] = X at *
          obtain ⟨xk, xv, xg⟩ := X
          unfold PairS.val' at HPR
          simp only at q0 q1 q2 HPR HT
          have d4 : ((i : Int).tmod 8) = (r : Int) := by rw [Int.tmod_eq_emod_of_nonneg (by omega)]; omega
          have d5 : ((i : Int) % 8) = (r : Int) := by omega
          have hr8 : r < 8 := by omega
          clear hrr hxs hxf
          have s1 : ¬ 9223372036854775807 < Fs.size + T.size := by omega
          have s2 : ¬ 9223372036854775807 < Bk.size + P.size := by omega
          have s3 : ¬ 9223372036854775807 < O.size + W.size := by omega
          clear zO zF zB zT zP zW
          by_cases hr0 : r = 0
          · by_cases hla : i + 1 = l.length
            · have hr0 : ((r : Int) == 0) = true := by simp; omega
              have hr7 : ((r : Int) == 7) = false := by simp; omega
              have hla : ((i : Int) == (l.length : Int) - 1) = true := by simp; omega
              have HF1 := Lib.hid (HF1A.out (by omega))
              have HN1 := Lib.hid (HP1.out (by omega))
              have HEO := Lib.hid (HEND.out (.inr (by omega))).1
              have HEB := Lib.hid (HEND.out (.inr (by omega))).2.1
              have HW := Lib.hid (HEND.out (.inr (by omega))).2.2
              clear HF1A HF0A HP1 HEND HGOES

              go_wp2_with fail
              refine (HT.out _).mono ?_
              rintro e w1 ⟨rfl, b1⟩
              have B1 := Lib.hid (HI.out.trans (b1.mono HI.out.size))
              replace q0 := (b1.cell (World.block_lt_of_cell? _ ⟨b, o + i * 3, none⟩ q0)).trans q0
              replace q1 := (b1.cell (World.block_lt_of_cell? _ ⟨b, o + i * 3 + 1, none⟩ q1)).trans q1
              replace q2 := (b1.cell (World.block_lt_of_cell? _ ⟨b, o + i * 3 + 2, none⟩ q2)).trans q2
              clear b1

              go_wp2_with fail
              refine (HPR.out _).mono ?_
              rintro e w2 ⟨rfl, b2⟩
              have B2 := Lib.hid (B1.out.trans (b2.mono B1.out.size))
              clear b2

              go_wp2_with fail
              refine (HW.out _).mono ?_
              rintro e w3 ⟨rfl, b3⟩
              have B3 := Lib.hid (B2.out.trans (b3.mono B2.out.size))
              clear b3
              go_wp2
              go_roundw
              case rel => exact ⟨i + 1, by omega, by go_num, by rw [HEO.out], by rw [HF1.out], by rw [HEB.out], by rw [HN1.out]; go_num, B3.out⟩
              case measure => exact hmeas
            · by_cases h7 : r = 7
              · omega
              · have hr0 : ((r : Int) == 0) = true := by simp; omega
                have hr7 : ((r : Int) == 7) = false := by simp; omega
                have hla : ((i : Int) == (l.length : Int) - 1) = false := by simp; omega
                have HF1 := Lib.hid (HF1A.out (by omega))
                have HN1 := Lib.hid (HP1.out (by omega))
                have HGO := Lib.hid (HGOES.out (by omega) (by omega)).1
                have HGB := Lib.hid (HGOES.out (by omega) (by omega)).2
                clear HF1A HF0A HP1 HEND HGOES

                go_wp2_with fail
                refine (HT.out _).mono ?_
                rintro e w1 ⟨rfl, b1⟩
                have B1 := Lib.hid (HI.out.trans (b1.mono HI.out.size))
                replace q0 := (b1.cell (World.block_lt_of_cell? _ ⟨b, o + i * 3, none⟩ q0)).trans q0
                replace q1 := (b1.cell (World.block_lt_of_cell? _ ⟨b, o + i * 3 + 1, none⟩ q1)).trans q1
                replace q2 := (b1.cell (World.block_lt_of_cell? _ ⟨b, o + i * 3 + 2, none⟩ q2)).trans q2
                clear b1

                go_wp2_with fail
                refine (HPR.out _).mono ?_
                rintro e w2 ⟨rfl, b2⟩
                have B2 := Lib.hid (B1.out.trans (b2.mono B1.out.size))
                clear b2

                go_wp2
                go_roundw
                case rel => exact ⟨i + 1, by omega, by go_num, by rw [HGO.out], by rw [HF1.out], by rw [HGB.out], by rw [HN1.out]; go_num, B2.out⟩
                case measure => exact hmeas
          · by_cases h7 : r = 7
            · have hr0 : ((r : Int) == 0) = false := by simp; omega
              have hr7 : ((r : Int) == 7) = true := by simp; omega
              have HF0 := Lib.hid (HF0A.out (by omega))
              have HEO := Lib.hid (HEND.out (.inl (by omega))).1
              have HEB := Lib.hid (HEND.out (.inl (by omega))).2.1
              have HW := Lib.hid (HEND.out (.inl (by omega))).2.2
              clear HF1A HF0A HP1 HEND HGOES

              have B1 := Lib.hid HI.out

              go_wp2_with fail
              refine (HPR.out _).mono ?_
              rintro e w2 ⟨rfl, b2⟩
              have B2 := Lib.hid (B1.out.trans (b2.mono B1.out.size))
              clear b2

              go_wp2_with fail
              refine (HW.out _).mono ?_
              rintro e w3 ⟨rfl, b3⟩
              have B3 := Lib.hid (B2.out.trans (b3.mono B2.out.size))
              clear b3
              go_wp2
              go_roundw
              case rel => exact ⟨i + 1, by omega, by go_num, by rw [HEO.out], by rw [HF0.out.1], by rw [HEB.out], by rw [HF0.out.2], B3.out⟩
              case measure => exact hmeas
            · by_cases hla : i + 1 = l.length
              · have hr0 : ((r : Int) == 0) = false := by simp; omega
                have hr7 : ((r : Int) == 7) = false := by simp; omega
                have hla : ((i : Int) == (l.length : Int) - 1) = true := by simp; omega
                have HF0 := Lib.hid (HF0A.out (by omega))
                have HEO := Lib.hid (HEND.out (.inr (by omega))).1
                have HEB := Lib.hid (HEND.out (.inr (by omega))).2.1
                have HW := Lib.hid (HEND.out (.inr (by omega))).2.2
                clear HF1A HF0A HP1 HEND HGOES

                have B1 := Lib.hid HI.out

                go_wp2_with fail
                refine (HPR.out _).mono ?_
                rintro e w2 ⟨rfl, b2⟩
                have B2 := Lib.hid (B1.out.trans (b2.mono B1.out.size))
                clear b2

                go_wp2_with fail
                refine (HW.out _).mono ?_
                rintro e w3 ⟨rfl, b3⟩
                have B3 := Lib.hid (B2.out.trans (b3.mono B2.out.size))
                clear b3
                go_wp2
                go_roundw
                case rel => exact ⟨i + 1, by omega, by go_num, by rw [HEO.out], by rw [HF0.out.1], by rw [HEB.out], by rw [HF0.out.2], B3.out⟩
                case measure => exact hmeas
              · have hr0 : ((r : Int) == 0) = false := by simp; omega
                have hr7 : ((r : Int) == 7) = false := by simp; omega
                have hla : ((i : Int) == (l.length : Int) - 1) = false := by simp; omega
                have HF0 := Lib.hid (HF0A.out (by omega))
                have HGO := Lib.hid (HGOES.out (by omega) (by omega)).1
                have HGB := Lib.hid (HGOES.out (by omega) (by omega)).2
                clear HF1A HF0A HP1 HEND HGOES

                have B1 := Lib.hid HI.out

                go_wp2_with fail
                refine (HPR.out _).mono ?_
                rintro e w2 ⟨rfl, b2⟩
                have B2 := Lib.hid (B1.out.trans (b2.mono B1.out.size))
                clear b2

                go_wp2
                go_roundw
                case rel => exact ⟨i + 1, by omega, by go_num, by rw [HGO.out], by rw [HF0.out.1], by rw [HGB.out], by rw [HF0.out.2], B2.out⟩
                case measure => exact hmeas
        · obtain rfl : i = l.length := by omega
          rw [doneN_all, openB_all]
          have hz1 := frames_len HFI.out.2 (partsN l.length)
          have hz2 := firsts_len HFI.out.2 (partsN l.length)
          have hpn : partsN l.length ≤ 439804651099 := by unfold partsN; omega
          have hpn1 := partsN_pos hne
          have hks : (keysOf l).length = l.length := by unfold keysOf; simp
          obtain ⟨M, hM⟩ : ∃ M, min (l.length + 8) 8192 = M := ⟨_, rfl⟩
          have hM1 : 1 ≤ (M : Int) ∧ (M : Int) ≤ 8192 := by omega
          have hkz : ∀ j, ((keysOf l).getD j ByteArray.empty).size ≤ 140737488351232 := fun j => by
            by_cases hj : j < l.length
            · have e : (keysOf l).getD j ByteArray.empty = l[j].key := by simp [keysOf, List.getD, hj]
              rw [e]
              have := ((fine_iff _).1 (HFI.out.2 _ (List.getElem_mem hj))).2.1
              omega
            · have e : (keysOf l).getD j ByteArray.empty = ByteArray.empty := by simp [keysOf, List.getD, Nat.le_of_not_lt hj]
              rw [e]; exact Nat.zero_le _
          have how : wk.ownsRow w.heap.size 9 1 (.slice ka (keysOf l).length kc) (keysOf l).length (txs6 (keysOf l)) := by rw [hks]; exact HOWN.out.1
          obtain ⟨ka', kc', hkv, hk6⟩ := keys_own how hkz (by omega)
          injection hkv with hk1 hk2 hk3
          subst hk1
          have HMK := Lib.hid (rmake_any ka kc (keysOf l) _ (hk6.below HI.out).1 (fun j => by have := hkz j; unfold maxLen; omega) (M : Int) (wf_small (by omega)))
          rw [hks] at HMK
          have e1 : makeE (M : Int) = 0 := by unfold makeE; rw [if_pos hM1]
          have e2 : (makeS (keysOf l) (M : Int)).data.toList = filtL l := by
            rw [makeS_list _ hM1]
            unfold filtL keysOf
            rw [hM]; simp
          have e3 : ((makeS (keysOf l) (M : Int)).size : Int) = M := makeS_size _ hM1
          rw [e1] at HMK
          generalize makeS (keysOf l) (M : Int) = FL at *
          have e3 : FL.size = M := by omega
          have HIB := Lib.hid (fun w => rint_any (partsN l.length) (by omega) w)
          have HIL := Lib.hid (fun w => rint_any l.length (by omega) w)
          have HTF := Lib.hid (fun w => rtext_any FL (by omega) w)
          have zl1 := putL_len10 (small8 (n := partsN l.length) (by omega))
          have zl2 := putL_len10 (small8 (n := l.length) (by omega))
          have zl3 := putL_len10 (small8 (n := FL.size) (by omega))
          have zl4 : FL.data.toList.length = FL.size := by simp
          obtain ⟨O, eO⟩ : ∃ O : ByteArray, (⟨(framesL (blocksL l (partsN l.length))).toArray⟩ : ByteArray) = O := ⟨_, rfl⟩
          obtain ⟨Fs, eF⟩ : ∃ O : ByteArray, (⟨(enct (firstsK l (partsN l.length))).toArray⟩ : ByteArray) = O := ⟨_, rfl⟩
          obtain ⟨IB, eIB⟩ : ∃ O : ByteArray, (⟨(putL (partsN l.length)).toArray⟩ : ByteArray) = O := ⟨_, rfl⟩
          obtain ⟨IL, eIL⟩ : ∃ O : ByteArray, (⟨(putL l.length).toArray⟩ : ByteArray) = O := ⟨_, rfl⟩
          obtain ⟨TF, eTF⟩ : ∃ O : ByteArray, (⟨(putL FL.size ++ FL.data.toList).toArray⟩ : ByteArray) = O := ⟨_, rfl⟩
          have zO : O.size ≤ 70100 * partsN l.length := by rw [← eO, tx_size]; exact hz1
          have zF : Fs.size ≤ 80 * partsN l.length := by rw [← eF, tx_size]; exact hz2
          have zIB : IB.size ≤ 10 := by rw [← eIB, tx_size]; exact zl1
          have zIL : IL.size ≤ 10 := by rw [← eIL, tx_size]; exact zl2
          have zTF : TF.size ≤ 8202 := by rw [← eTF, tx_size, List.length_append]; omega
          have eFT : IB ++ Fs ++ IL ++ TF = ⟨(footL l (filtL l)).toArray⟩ := by
            rw [← eIB, ← eF, ← eIL, ← eTF, tx_app, tx_app, tx_app]
            unfold footL
            rw [e2, ← zl4, e2]
            simp
          have zFT : (IB ++ Fs ++ IL ++ TF).size = (footL l (filtL l)).length := by rw [eFT, tx_size]
          have HBE : Hid (buildE l = if 1048576 < (footL l (filtL l)).length then 2 else 0) := by
            show _ = _
            unfold buildE
            rw [if_neg hne, if_neg (by rw [HBZ.out]; simp)]
          have s1 : ¬ 9223372036854775807 < IB.size + Fs.size := by omega
          have s2 : ¬ 9223372036854775807 < IB.size + Fs.size + IL.size := by omega
          have s3 : ¬ 9223372036854775807 < IB.size + Fs.size + IL.size + TF.size := by omega
          have hwn : IntKind.i64.wrap ((l.length : Int) + 8) = (l.length : Int) + 8 := by rw [IntKind.wrap_i64]; omega
          have hmn : (min ((l.length : Int) + 8) 8192) = (M : Int) := by omega
          simp only [eO, eF]
          simp only [eIB] at HIB
          simp only [eIL] at HIL
          simp only [eTF] at HTF
          have HZ := Lib.hid zFT
          have eO' := Lib.hid eO
          have HFT := Lib.hid eFT
          clear eO eF eIB eIL eTF hz1 hz2 zl1 zl2 zl3 zl4 zF zIB zIL zTF zFT eFT how hk6 hk3 e2 hks
          go_wp2_with fail
          · have HMK' := HMK.out
            rw [show (M : Int) = 8192 by omega] at HMK'
            refine HMK'.mono ?_
            rintro e w3 ⟨rfl, b3⟩
            have B3 := Lib.hid ((HOWN.out.2.trans (HI.out.mono hws0)).trans (b3.mono (HOWN.out.2.trans (HI.out.mono hws0)).size))
            clear b3 HMK HMK'
            go_wp2_with fail
            refine (HIB.out _).mono ?_
            rintro e w4 ⟨rfl, b4⟩
            have B4 := Lib.hid (B3.out.trans (b4.mono B3.out.size))
            clear b4
            go_wp2_with fail
            refine (HIL.out _).mono ?_
            rintro e w5 ⟨rfl, b5⟩
            have B5 := Lib.hid (B4.out.trans (b5.mono B4.out.size))
            clear b5
            go_wp2_with fail
            refine (HTF.out _).mono ?_
            rintro e w6 ⟨rfl, b6⟩
            have B6 := Lib.hid (B5.out.trans (b6.mono B5.out.size))
            clear b6
            by_cases hft : (footL l (filtL l)).length ≤ 1048576
            · have HW := Lib.hid (rwrap_any (IB ++ Fs ++ IL ++ TF) (by rw [HZ.out]; exact hft))
              obtain ⟨W, eW⟩ : ∃ O : ByteArray, (⟨(frameL (IB ++ Fs ++ IL ++ TF).data.toList).toArray⟩ : ByteArray) = O := ⟨_, rfl⟩
              have zW : W.size ≤ 1048600 := by
                have e5 : (IB ++ Fs ++ IL ++ TF).data.toList.length = (IB ++ Fs ++ IL ++ TF).size := ba_len _
                have := frameL_le (l := (IB ++ Fs ++ IL ++ TF).data.toList) (by rw [e5, HZ.out]; exact hft)
                rw [← eW, tx_size]; rw [e5, HZ.out] at this; omega
              have eS : Hid (buildS l = O ++ W ∧ buildE l = 0) := by
                have h0 : buildE l = 0 := by rw [HBE.out, if_neg (by omega)]
                refine ⟨?_, h0⟩
                unfold buildS
                rw [if_pos h0]
                unfold tabL
                rw [← eO'.out, ← eW, HFT.out, tx_app]
              rw [eW] at HW
              have s4 : ¬ 9223372036854775807 < O.size + W.size := by omega
              clear eW hft zW zO
              go_wp2_with fail
              refine (HW.out _).mono ?_
              rintro e w7 ⟨rfl, b7⟩
              have B7 := Lib.hid (B6.out.trans (b7.mono B6.out.size))
              clear b7
              go_wp2
              go_ret2
              exact ⟨by rw [eS.out.1, eS.out.2]; rfl, B7.out⟩
            · have HW := Lib.hid (rwrap_long (IB ++ Fs ++ IL ++ TF) (by rw [HZ.out]; exact hft))
              have eS : Hid (buildS l = ⟨#[]⟩ ∧ buildE l = 2) := by
                have h0 : buildE l = 2 := by rw [HBE.out, if_pos (by omega)]
                refine ⟨?_, h0⟩
                unfold buildS
                rw [if_neg (by omega)]
              clear hft zO
              go_wp2_with fail
              refine (HW.out _).mono ?_
              rintro e w7 ⟨rfl, rfl⟩
              go_wp2
              go_ret2
              exact ⟨by rw [eS.out.1, eS.out.2]; rfl, B6.out⟩
          · have HMK' := HMK.out
            rw [show (M : Int) = (l.length : Int) + 8 by omega] at HMK'
            refine HMK'.mono ?_
            rintro e w3 ⟨rfl, b3⟩
            have B3 := Lib.hid ((HOWN.out.2.trans (HI.out.mono hws0)).trans (b3.mono (HOWN.out.2.trans (HI.out.mono hws0)).size))
            clear b3 HMK HMK'
            go_wp2_with fail
            refine (HIB.out _).mono ?_
            rintro e w4 ⟨rfl, b4⟩
            have B4 := Lib.hid (B3.out.trans (b4.mono B3.out.size))
            clear b4
            go_wp2_with fail
            refine (HIL.out _).mono ?_
            rintro e w5 ⟨rfl, b5⟩
            have B5 := Lib.hid (B4.out.trans (b5.mono B4.out.size))
            clear b5
            go_wp2_with fail
            refine (HTF.out _).mono ?_
            rintro e w6 ⟨rfl, b6⟩
            have B6 := Lib.hid (B5.out.trans (b6.mono B5.out.size))
            clear b6
            by_cases hft : (footL l (filtL l)).length ≤ 1048576
            · have HW := Lib.hid (rwrap_any (IB ++ Fs ++ IL ++ TF) (by rw [HZ.out]; exact hft))
              obtain ⟨W, eW⟩ : ∃ O : ByteArray, (⟨(frameL (IB ++ Fs ++ IL ++ TF).data.toList).toArray⟩ : ByteArray) = O := ⟨_, rfl⟩
              have zW : W.size ≤ 1048600 := by
                have e5 : (IB ++ Fs ++ IL ++ TF).data.toList.length = (IB ++ Fs ++ IL ++ TF).size := ba_len _
                have := frameL_le (l := (IB ++ Fs ++ IL ++ TF).data.toList) (by rw [e5, HZ.out]; exact hft)
                rw [← eW, tx_size]; rw [e5, HZ.out] at this; omega
              have eS : Hid (buildS l = O ++ W ∧ buildE l = 0) := by
                have h0 : buildE l = 0 := by rw [HBE.out, if_neg (by omega)]
                refine ⟨?_, h0⟩
                unfold buildS
                rw [if_pos h0]
                unfold tabL
                rw [← eO'.out, ← eW, HFT.out, tx_app]
              rw [eW] at HW
              have s4 : ¬ 9223372036854775807 < O.size + W.size := by omega
              clear eW hft zW zO
              go_wp2_with fail
              refine (HW.out _).mono ?_
              rintro e w7 ⟨rfl, b7⟩
              have B7 := Lib.hid (B6.out.trans (b7.mono B6.out.size))
              clear b7
              go_wp2
              go_ret2
              exact ⟨by rw [eS.out.1, eS.out.2]; rfl, B7.out⟩
            · have HW := Lib.hid (rwrap_long (IB ++ Fs ++ IL ++ TF) (by rw [HZ.out]; exact hft))
              have eS : Hid (buildS l = ⟨#[]⟩ ∧ buildE l = 2) := by
                have h0 : buildE l = 2 := by rw [HBE.out, if_pos (by omega)]
                refine ⟨?_, h0⟩
                unfold buildS
                rw [if_neg (by omega)]
              clear hft zO
              go_wp2_with fail
              refine (HW.out _).mono ?_
              rintro e w7 ⟨rfl, rfl⟩
              go_wp2
              go_ret2
              exact ⟨by rw [eS.out.1, eS.out.2]; rfl, B6.out⟩
end Go.Proofs.Ytlakemcbfeogkaa

namespace Go.Proofs.Ytlakemcbfeogkaa
open Go.RowKit
set_option linter.unusedVariables false

/-- A text of a row of texts. -/
theorem row_text {w : World} {base : Nat} {v : Value} {fs : List (List UInt8)} (h : w.ownsRow base 9 1 v fs.length (fs.map tx)) {i : Nat} (hi : i < fs.length) : ∃ g cap, v = .slice (some ⟨g, 0, none⟩) fs.length cap ∧ w.cell? ⟨g, i, none⟩ = some (tx (fs.getD i [])) := by
  rcases h.2 with ⟨_, h0⟩ | ⟨g, cap, cur, rfl, _⟩
  · omega
  · refine ⟨g, cap, rfl, (h.cellAt i (by omega)).trans ?_⟩
    simp [List.getD, hi]

/-- A wrapped index, told so that omega does not see it. -/
theorem idx_last {nb : Nat} (h : nb ≤ 1099511627776) : (∀ m : Int, m = (nb : Int) → wrap64 m = (nb : Int)) ∧ (∀ m : Int, m = (nb : Int) → IntKind.i64.wrap m = (nb : Int)) ∧ (∀ m : Int, m = (nb : Int) + 1 - 1 → wrap64 m = (nb : Int)) ∧ (∀ m : Int, m = (nb : Int) + 1 - 1 → IntKind.i64.wrap m = (nb : Int)) := by
  refine ⟨?_, ?_, ?_, ?_⟩
  · rintro m rfl; exact IntWalk.wrap64_in _ (by omega)
  · rintro m rfl; rw [IntKind.wrap_i64]; omega
  · rintro m rfl; rw [IntWalk.wrap64_in _ (by omega)]; omega
  · rintro m rfl; rw [IntKind.wrap_i64]; omega

theorem int_zero {m : Int} {R : Option (List UInt8)} {n : Nat} (h : intS m R = (n, none)) : n = 0 := by
  unfold intS at h
  split at h
  · injection h with h _; exact h.symm
  · cases R with
    | none => injection h with h _; exact h.symm
    | some l =>
      unfold numS at h
      simp only at h
      split at h
      · split at h
        · injection h with _ h; cases h
        · injection h with h _; exact h.symm
      · injection h with h _; exact h.symm

theorem lastAt_part {a b : List PairS} {k : Nat} (h : k ≤ b.length) : lastAt (a ++ b) (a.length + k) = lastAt (a ++ b.take k) (a ++ b.take k).length := by
  have hl : (a ++ b.take k).length = a.length + k := by rw [List.length_append, List.length_take]; omega
  rw [hl]
  unfold lastAt
  split
  · rfl
  · rename_i h0
    have e : a ++ b = (a ++ b.take k) ++ b.drop k := by rw [List.append_assoc, List.take_append_drop]
    congr 1
    conv => lhs; rw [e]
    simp only [List.getD]
    rw [List.getElem?_append_left (by rw [hl]; omega)]

/-- What Open answers. -/
def OpenEnd7 (w : World) (s : List UInt8) (e : Ending) (w' : World) : Prop :=
  ((∃ l v, e = .returned (.tuple #[v, .int .i64 0]) ∧ IsTab s l ∧ w'.ownsRow w.heap.size 39 3 v l.length (rowP l)) ∨ (∃ v, e = .returned (.tuple #[v, .int .i64 60]) ∧ ∀ l, ¬ IsTab s l)) ∧ Below w.heap.size w w'

set_option maxHeartbeats 4000000 in
set_option maxRecDepth 100000 in
theorem ropen_any (s : ByteArray) (hs : s.size ≤ 1099511627776) (w : World) :
    Calls Try.prog 11 #[.string s] w fun e w' => OpenEnd7 w s.data.toList e w' := by
  obtain ⟨i0, hi, hz0, hz1, hz2⟩ := info_parts infoPair
  have hsl : s.data.toList.length = s.size := ba_len s
  have hscan := rscan_any s hs w
  go_enter Try.func11, Try.ntmps11
  go_wp2_with fail
  refine hscan.mono ?_
  rintro e w1 ⟨v1, rfl, ho1, b1⟩
  cases hsc : scanL s.data.toList with | mk fs rest =>
  rw [hsc] at ho1
  simp only at ho1 ⊢
  have hfew := scan_few hsc
  have hinv := scanL_inv fs _ rest hsc
  have HO1 := Lib.hid ho1
  have HB1 := Lib.hid b1
  obtain ⟨fa, fc, rfl⟩ := row_slice ho1
  clear ho1 b1 hscan
  have hrl : rest.length ≤ s.size := by have := congrArg List.length hinv.1; rw [List.length_append] at this; omega
  have hwn : IntKind.i64.wrap ((s.size : Int) - (rest.length : Int)) = (s.size : Int) - (rest.length : Int) := by rw [IntKind.wrap_i64]; omega
  by_cases hrest : rest = []
  · subst hrest
    by_cases h2 : fs.length < 2
    · have HN := Lib.hid (no_rest hsc (.inr h2))
      have hg2 : ((fs.length : Int) < 2) := by omega
      clear hinv
      go_wp2
      go_ret2
      exact ⟨.inr ⟨_, rfl, HN.out⟩, HB1.out⟩
    · have hg2 : ¬ ((fs.length : Int) < 2) := by omega
      obtain ⟨nb, hnb⟩ : ∃ nb, fs.length = nb + 1 := ⟨fs.length - 1, by omega⟩
      obtain ⟨fg, fcap, hfv, cF⟩ := row_text HO1.out (i := nb) (by omega)
      injection hfv with hfv1 hfv2 hfv3
      subst hfv1
      clear hfv3
      obtain ⟨foot, hfoot⟩ : ∃ foot, fs.getD nb [] = foot := ⟨_, rfl⟩
      rw [hfoot] at cF
      obtain ⟨FT, eF1, eF2, eF3⟩ := tv_text foot
      have cF2 : w1.cell? ⟨fg, nb, none⟩ = some (.string FT) := cF.trans (congrArg some eF1)
      have hfs : foot.length ≤ s.size := by
        have h3 := hinv.1
        have h4 : fs.take nb ++ [foot] = fs := by
          rw [← hfoot]
          have := List.take_append_drop nb fs
          rw [List.drop_eq_getElem_cons (by omega), List.drop_eq_nil_of_le (by omega)] at this
          simpa [List.getD, show nb < fs.length by omega] using this
        rw [← h4, framesL_end] at h3
        have h5 := congrArg List.length h3
        have h6 := frameL_len foot
        simp only [List.length_append] at h5
        omega
      have HINV := Lib.hid hinv
      have HCF : Hid (∀ i, i < fs.length → w1.cell? ⟨fg, i, none⟩ = some (tx (fs.getD i []))) := fun i hi => by
        obtain ⟨g', cap', hv', c'⟩ := row_text HO1.out hi
        injection hv' with hv'
        injection hv' with hv'
        injection hv' with hv'
        subst hv'
        exact c'
      clear cF hinv eF1 hg2
      have hnew := heap_alloc_new w1 (.cells #[.string FT, .bool false] 83)
      have hR2 : RDE (w1.alloc (.cells #[.string FT, .bool false] 83)) w1.heap.size (some foot) :=
        ⟨FT, ⟨eF2, by rw [block_cell hnew]; rfl, by rw [block_cell hnew]; rfl, block_free hnew 0, block_free hnew 1, by omega⟩⟩
      have HB2 := Lib.hid (HB1.out.alloc HB1.out.size (.cells #[.string FT, .bool false] 83))
      have HO2 := Lib.hid (ownsRow_below HO1.out ((Below.refl _ w1).alloc (Nat.le_refl _) (.cells #[.string FT, .bool false] 83)))
      have hct := rint2_any hR2 (s.size : Int) (by omega) (by omega)
      cases hni : intS (s.size : Int) (some foot) with | mk n0 R0 =>
      rw [hni] at hct
      simp only at hct
      have HCT := Lib.hid hct
      have hsm : n0 ≤ s.size := by
        have h3 := intS_le s.size (some foot)
        rw [hni] at h3; exact h3
      have hj0 : (0 : Int) ≤ (nb : Int) := Int.natCast_nonneg _
      have hj1 : (nb : Int) < (nb : Int) + 1 := by omega
      have hnbs : nb ≤ 1099511627776 := by omega
      have hnb1 : 1 ≤ nb := by omega
      have hg2 : ¬ ((nb : Int) + 1 < 2) := by omega
      obtain ⟨hj4, hj5, hj2, hj3⟩ := idx_last (nb := nb) hnbs
      clear hnew hct hR2
      simp only [hnb]
      go_wp2_with fail
      refine HCT.out.mono ?_
      rintro e w3 ⟨rfl, l3⟩
      have B3 := Lib.hid (((Below.refl _ w1).alloc (Nat.le_refl _) (.cells #[.string FT, .bool false] 83)).trans (l3.below (by simp) (Nat.le_refl _)))
      have R3 := Lib.hid l3.1
      clear l3 HCT hj4 hj5 hj2 hj3
      by_cases hn0 : n0 = nb
      · subst hn0
        cases R0 with
        | none => exact absurd (int_zero hni) (Nat.ne_of_gt hnb1)
        | some r =>
        have HS := Lib.hid (ReadTo.start (fs := fs) (int_inv hni).2.2)
        have hg : ((n0 : Int) != (n0 : Int)) = false := by simp
        obtain ⟨hj4, hj5, hj2, hj3⟩ := idx_last (nb := n0) hnbs
        clear hni
        go_wp2
        go_loopw [7, 8, 9] (fun av lv iv wr => ∃ (i : Nat) (all : List PairS) (R : List UInt8), i ≤ n0 ∧ iv = .int .i64 (i : Int) ∧ lv = .string (lastAt all all.length) ∧ wr.ownsRow (w1.heap.size + 1) 39 3 av all.length (rowP all) ∧ Hid (ReadTo fs foot n0 i all R ∧ RisingP all ∧ RDE wr w1.heap.size (some R) ∧ Below w1.heap.size w1 wr))
          (fun _ _ iv _ => n0 - (intOf iv).toNat)
        case atStart => exact ⟨0, [], r, Nat.zero_le _, rfl, rfl, World.ownsRow_nil _ _ _ _, HS.out, List.Pairwise.nil, R3.out, B3.out⟩
        case round =>
          obtain ⟨i, all, R, hin, rfl, rfl, hown, HI⟩ := hrel
          have HJ := Lib.hid (And.intro hj4 (And.intro hj5 (And.intro hj2 hj3)))
          clear hj4 hj5 hj2 hj3
          by_cases hlt : i < n0
          · have cI := HCF.out i (by omega)
            obtain ⟨BT, eB1, eB2, eB3⟩ := tv_text (fs.getD i [])
            have hBl : (fs.getD i []).length ≤ 1048576 := HINV.out.2 _ (by
              have : fs.getD i [] = fs[i]'(by omega) := by simp [List.getD, show i < fs.length by omega]
              rw [this]; exact List.getElem_mem _)
            have cI2 : wr.cell? ⟨fg, i, none⟩ = some (.string BT) := (HI.out.2.2.2.cell (World.block_lt_of_cell? w1 ⟨fg, i, none⟩ cI)).trans (cI.trans (congrArg some eB1))
            have HP := Lib.hid (rpairs_any BT (by omega) wr)
            have hi1 : (i : Int) < (n0 : Int) := by omega
            have HLEN := Lib.hid (HI.out.1.len hlt)
            clear cI eB1 hBl
            obtain ⟨hj4, hj5, hj2, hj3⟩ := HJ.out
            go_wp2_with fail
            refine HP.out.mono ?_
            clear hj4 hj5 hj2 hj3
            rintro e w4 ⟨hpe, b4⟩
            have R4 := Lib.hid (HI.out.2.2.1.below b4)
            have B4 := Lib.hid (HI.out.2.2.2.trans (b4.mono HI.out.2.2.2.size))
            have own4 := ownsRow_below hown b4
            cases hk : textS (some R) with | mk k R1 =>
            have hct := rtext2_any R4.out
            rw [hk] at hct
            obtain ⟨K, eK1, eK2, eK3⟩ := tv_text k
            simp only [eK1] at hct
            have HCT := Lib.hid hct
            rw [eB2] at hpe
            have hw4 := b4.size
            clear hct hown HP b4 cI2
            rcases hpe with ⟨xs, xv, rfl, hblk, hrow⟩ | ⟨xv, rfl, hnblk⟩
            · have hrow := ownsRow_base (base' := w1.heap.size + 1) hrow (by have := RDE.lt HI.out.2.2.1; omega)
              go_wp2_with fail
              refine HCT.out.mono ?_
              rintro e w5 ⟨rfl, l5⟩
              have own5 := left_row l5 own4 (by omega)
              have hrow5 := left_row l5 hrow (by omega)
              have B5 := Lib.hid (B4.out.trans (l5.below B4.out.size (Nat.le_refl _)))
              have R5 := Lib.hid l5.1
              obtain ⟨t5, hR5⟩ := R5.out
              have c15 := hR5.c1
              have HBW := Lib.hid (HB1.out.trans (B5.out.mono HB1.out.size))
              clear l5 own4 hrow HCT R4 hR5
              obtain ⟨g0, gc0, rfl, _, _, q0, _, _⟩ := row_pair hrow5 (i := 0) hblk.2.1
              have hx1 : (0 : Int) < (xs.length : Int) := by have := hblk.2.1; omega
              have hx8 : xs.length ≤ 8 := hblk.2.2.1
              have hx0 : xs.headD zeroP = xs[0]'hblk.2.1 := by
                cases xs with
                | nil => exact absurd hblk.2.1 (by simp)
                | cons x r => rfl
              generalize hX0 : xs[0]'hblk.2.1 = X0 at *
              simp only [Nat.zero_mul] at q0
              cases R1 with
              | none =>
                have HN := Lib.hid (no_first hsc hnb hfoot HI.out.1 hlt hblk hk (.inl rfl))
                simp only [Option.isNone_none] at c15
                clear hk hX0 hx0
                go_wp2
                go_ret2
                exact ⟨.inr ⟨_, rfl, HN.out⟩, HBW.out⟩
              | some r1 =>
                simp only [Option.isNone_some] at c15
                by_cases hkey : X0.key = K
                · subst hkey
                  obtain ⟨ht1, ht2⟩ := text_inv hk
                  have HRN : Hid (R = putL (xs.headD zeroP).key.size ++ ((xs.headD zeroP).key.data.toList ++ r1)) := by
                    show _ = _
                    rw [hx0, ht2, ← eK2, ba_len]
                  have hj6 : ∀ m : Int, m = (n0 : Int) + 1 - 2 → wrap64 m = (n0 : Int) - 1 := by
                    rintro m rfl
                    rw [IntWalk.wrap64_in _ (by omega)]; omega
                  have hj7 : ∀ m : Int, m = (n0 : Int) - 1 → wrap64 m = (n0 : Int) - 1 := by
                    rintro m rfl
                    rw [IntWalk.wrap64_in _ (by omega)]
                  clear ht1 ht2
                  by_cases h8 : i + 1 < n0 ∧ xs.length ≠ 8
                  · have HN := Lib.hid (no_first hsc hnb hfoot HI.out.1 hlt hblk hk (.inr (.inr h8)))
                    have hg8 : ((xs.length : Int) != 8) = true := by simp; omega
                    have hgi : (i : Int) < (n0 : Int) - 1 := by omega
                    clear hk hX0 hx0
                    go_wp2
                    go_ret2
                    exact ⟨.inr ⟨_, rfl, HN.out⟩, HBW.out⟩
                  · have H8 : Hid (i + 1 < n0 → xs.length = 8) := fun h => by
                      rcases Nat.lt_or_ge (i + 1) n0 with h2 | h2
                      · exact Classical.byContradiction fun h3 => h8 ⟨h, h3⟩
                      · omega
                    have hgi : ¬ (i : Int) < (n0 : Int) - 1 ∨ ((i : Int) < (n0 : Int) - 1 ∧ ((xs.length : Int) != 8) = false) := by
                      by_cases h2 : i + 1 < n0
                      · exact .inr ⟨by omega, by rw [H8.out h2]; rfl⟩
                      · exact .inl (by omega)
                    clear h8 hk hX0 hx0
                    rcases hgi with hgi | ⟨hgi, hg8⟩
                    · go_wp2
                      go_loop [8, 13] (fun lv kv => ∃ k : Nat, k ≤ xs.length ∧ kv = .int .i64 (k : Int) ∧ lv = .string (lastAt (all ++ xs) (all.length + k)) ∧ Hid (RisingP (all ++ xs.take k))) (fun _ kv => xs.length - (intOf kv).toNat)
                      case atStart => exact ⟨0, Nat.zero_le _, rfl, by rw [lastAt_part (Nat.zero_le _), List.take_zero, List.append_nil], by rw [List.take_zero, List.append_nil]; exact HI.out.2.1⟩
                      case round =>
                        obtain ⟨k2, hk2, rfl, rfl, hri⟩ := hrel
                        by_cases hlt2 : k2 < xs.length
                        · obtain ⟨g', cap', hv', _, _, p0, _, _⟩ := row_pair hrow5 hlt2
                          injection hv' with hv'
                          injection hv' with hv'
                          injection hv' with hv'
                          subst hv'
                          have HLP := Lib.hid (lastAt_part (a := all) (b := xs) (k := k2) hk2)
                          have hat : (all ++ xs)[all.length + k2]'(by rw [List.length_append]; omega) = xs[k2] := by rw [List.getElem_append_right (Nat.le_add_right _ _)]; simp
                          have HLN : Hid (lastAt (all ++ xs) (all.length + (k2 + 1)) = xs[k2].key) := by
                            show _ = _
                            rw [← hat, ← lastAt_next]
                            rfl
                          have HTK : Hid (all ++ xs.take (k2 + 1) = (all ++ xs.take k2) ++ [xs[k2]]) := by
                            show _ = _
                            rw [List.take_succ_eq_append_getElem hlt2, List.append_assoc]
                          have HFA : Hid (FineP (all ++ xs.take k2)) := fun y hy => by
                            rcases List.mem_append.1 hy with hy | hy
                            · exact HI.out.1.fine y hy
                            · exact hblk.2.2.2 y (List.mem_of_mem_take hy)
                          have HYK : Hid (1 ≤ xs[k2].key.size) := ((fine_iff _).1 (hblk.2.2.2 _ (List.getElem_mem hlt2))).1
                          have HRA : Hid (RisingP (all ++ xs) → RisingP ((all ++ xs.take k2) ++ [xs[k2]])) := fun h => by
                            rw [← HTK.out]
                            refine h.sublist ?_
                            exact List.Sublist.append_left (List.take_sublist _ _) _
                          clear hat
                          have hmes : xs.length - (intOf (.int .i64 ((k2 : Int) + 1))).toNat < xs.length - (intOf (.int .i64 (k2 : Int))).toNat := by simp [intOf]; omega
                          generalize xs[k2] = Y at *
                          generalize lastAt (all ++ xs) (all.length + k2) = L at *
                          obtain ⟨yk, yv, yg⟩ := Y
                          simp only at p0 HLN HYK
                          have hlq := leq_any yk L
                          by_cases hb : befB L yk = true
                          · have HRB : Hid (RisingP (all ++ xs.take (k2 + 1))) := by
                              show RisingP _
                              rw [HTK.out]
                              exact rising_snoc hri.out (by rw [← HLP.out]; exact hb) HFA.out
                            go_wp2
                            exact ⟨⟨k2 + 1, by omega, by go_num, by rw [HLN.out], HRB⟩, hmes⟩
                          · have hb2 : befB L yk = false := by simpa using hb
                            have HN := Lib.hid (no_rise hsc hnb hfoot HI.out.1 hlt hblk (fun hr => hb (by rw [HLP.out]; exact rising_last (HRA.out hr) HYK.out)))
                            clear hb
                            go_wp2
                            go_ret2
                            exact ⟨.inr ⟨_, rfl, HN.out⟩, HBW.out⟩
                        · obtain rfl : k2 = xs.length := by omega
                          rw [List.take_length] at hri
                          have hal : all.length ≤ 8 * i := HI.out.1.hi
                          have own0 := ownsRow_base (base' := 0) own5 (Nat.zero_le _)
                          have hsrc := src_all hrow5 (rowP_one xs)
                          have hmes : n0 - (intOf (.int .i64 ((i : Int) + 1))).toNat < n0 - (intOf (.int .i64 (i : Int))).toNat := by simp [intOf]; omega
                          have HNX := Lib.hid (HI.out.1.next hlt (by omega) hblk H8.out HRN.out)
                          have HNB := Lib.hid (fun k hk => (own5.lt k hk).1)
                          have hw5 : w1.heap.size + 1 ≤ w5.heap.size := by have := R5.out.lt; omega
                          go_wp2_with (at_builtin; go_loud (refine wpList_app _ rfl (.tmp 110) (.tmp 111) rfl Try.underlying22 hi hz0 hz1 hz2 rfl (by decide) rfl own0 rfl hsrc ?a1 ?a2 ?_))
                          case a1 => omega
                          case a2 => unfold maxLen; omega
                          intro v6 w6 o6 g6 l6
                          have o7 : w6.ownsRow (w1.heap.size + 1) 39 3 v6 (all ++ xs).length (rowP (all ++ xs)) := by
                            rw [List.length_append, rowP_append]
                            refine ownsRow_up o6 (fun k hk => ?_)
                            rcases l6 k hk with h | h
                            · exact HNB.out k h
                            · omega
                          have R6 := Lib.hid (R5.out.kept g6 (fun e => by have := HNB.out _ e.symm; omega))
                          have B6 := Lib.hid (B5.out.grown g6 (by omega) (fun k hk => by have := HNB.out k hk; omega))
                          clear own0 hsrc o6 g6 l6 own5 hrow5 hi
                          go_wp2
                          go_roundw
                          case rel => exact ⟨i + 1, all ++ xs, r1, by omega, by go_num, by rw [List.length_append], o7, HNX.out, hri.out, R6.out, B6.out⟩
                          case measure => exact hmes
                    · go_wp2
                      go_loop [8, 13] (fun lv kv => ∃ k : Nat, k ≤ xs.length ∧ kv = .int .i64 (k : Int) ∧ lv = .string (lastAt (all ++ xs) (all.length + k)) ∧ Hid (RisingP (all ++ xs.take k))) (fun _ kv => xs.length - (intOf kv).toNat)
                      case atStart => exact ⟨0, Nat.zero_le _, rfl, by rw [lastAt_part (Nat.zero_le _), List.take_zero, List.append_nil], by rw [List.take_zero, List.append_nil]; exact HI.out.2.1⟩
                      case round =>
                        obtain ⟨k2, hk2, rfl, rfl, hri⟩ := hrel
                        by_cases hlt2 : k2 < xs.length
                        · obtain ⟨g', cap', hv', _, _, p0, _, _⟩ := row_pair hrow5 hlt2
                          injection hv' with hv'
                          injection hv' with hv'
                          injection hv' with hv'
                          subst hv'
                          have HLP := Lib.hid (lastAt_part (a := all) (b := xs) (k := k2) hk2)
                          have hat : (all ++ xs)[all.length + k2]'(by rw [List.length_append]; omega) = xs[k2] := by rw [List.getElem_append_right (Nat.le_add_right _ _)]; simp
                          have HLN : Hid (lastAt (all ++ xs) (all.length + (k2 + 1)) = xs[k2].key) := by
                            show _ = _
                            rw [← hat, ← lastAt_next]
                            rfl
                          have HTK : Hid (all ++ xs.take (k2 + 1) = (all ++ xs.take k2) ++ [xs[k2]]) := by
                            show _ = _
                            rw [List.take_succ_eq_append_getElem hlt2, List.append_assoc]
                          have HFA : Hid (FineP (all ++ xs.take k2)) := fun y hy => by
                            rcases List.mem_append.1 hy with hy | hy
                            · exact HI.out.1.fine y hy
                            · exact hblk.2.2.2 y (List.mem_of_mem_take hy)
                          have HYK : Hid (1 ≤ xs[k2].key.size) := ((fine_iff _).1 (hblk.2.2.2 _ (List.getElem_mem hlt2))).1
                          have HRA : Hid (RisingP (all ++ xs) → RisingP ((all ++ xs.take k2) ++ [xs[k2]])) := fun h => by
                            rw [← HTK.out]
                            refine h.sublist ?_
                            exact List.Sublist.append_left (List.take_sublist _ _) _
                          clear hat
                          have hmes : xs.length - (intOf (.int .i64 ((k2 : Int) + 1))).toNat < xs.length - (intOf (.int .i64 (k2 : Int))).toNat := by simp [intOf]; omega
                          generalize xs[k2] = Y at *
                          generalize lastAt (all ++ xs) (all.length + k2) = L at *
                          obtain ⟨yk, yv, yg⟩ := Y
                          simp only at p0 HLN HYK
                          have hlq := leq_any yk L
                          by_cases hb : befB L yk = true
                          · have HRB : Hid (RisingP (all ++ xs.take (k2 + 1))) := by
                              show RisingP _
                              rw [HTK.out]
                              exact rising_snoc hri.out (by rw [← HLP.out]; exact hb) HFA.out
                            go_wp2
                            exact ⟨⟨k2 + 1, by omega, by go_num, by rw [HLN.out], HRB⟩, hmes⟩
                          · have hb2 : befB L yk = false := by simpa using hb
                            have HN := Lib.hid (no_rise hsc hnb hfoot HI.out.1 hlt hblk (fun hr => hb (by rw [HLP.out]; exact rising_last (HRA.out hr) HYK.out)))
                            clear hb
                            go_wp2
                            go_ret2
                            exact ⟨.inr ⟨_, rfl, HN.out⟩, HBW.out⟩
                        · obtain rfl : k2 = xs.length := by omega
                          rw [List.take_length] at hri
                          have hal : all.length ≤ 8 * i := HI.out.1.hi
                          have own0 := ownsRow_base (base' := 0) own5 (Nat.zero_le _)
                          have hsrc := src_all hrow5 (rowP_one xs)
                          have hmes : n0 - (intOf (.int .i64 ((i : Int) + 1))).toNat < n0 - (intOf (.int .i64 (i : Int))).toNat := by simp [intOf]; omega
                          have HNX := Lib.hid (HI.out.1.next hlt (by omega) hblk H8.out HRN.out)
                          have HNB := Lib.hid (fun k hk => (own5.lt k hk).1)
                          have hw5 : w1.heap.size + 1 ≤ w5.heap.size := by have := R5.out.lt; omega
                          go_wp2_with (at_builtin; go_loud (refine wpList_app _ rfl (.tmp 110) (.tmp 111) rfl Try.underlying22 hi hz0 hz1 hz2 rfl (by decide) rfl own0 rfl hsrc ?b1 ?b2 ?_))
                          case b1 => omega
                          case b2 => unfold maxLen; omega
                          intro v6 w6 o6 g6 l6
                          have o7 : w6.ownsRow (w1.heap.size + 1) 39 3 v6 (all ++ xs).length (rowP (all ++ xs)) := by
                            rw [List.length_append, rowP_append]
                            refine ownsRow_up o6 (fun k hk => ?_)
                            rcases l6 k hk with h | h
                            · exact HNB.out k h
                            · omega
                          have R6 := Lib.hid (R5.out.kept g6 (fun e => by have := HNB.out _ e.symm; omega))
                          have B6 := Lib.hid (B5.out.grown g6 (by omega) (fun k hk => by have := HNB.out k hk; omega))
                          clear own0 hsrc o6 g6 l6 own5 hrow5 hi
                          go_wp2
                          go_roundw
                          case rel => exact ⟨i + 1, all ++ xs, r1, by omega, by go_num, by rw [List.length_append], o7, HNX.out, hri.out, R6.out, B6.out⟩
                          case measure => exact hmes
                · have HN := Lib.hid (no_first hsc hnb hfoot HI.out.1 hlt hblk hk (.inr (.inl (by rw [hx0]; intro e; exact hkey (ByteArray.ext (Array.toList_inj.1 (e.trans eK2.symm)))))))
                  have hcmp : (X0.key.toList == K.toList) = false := by rw [keyEq]; exact decide_eq_false hkey
                  clear hk hX0 hx0 hkey
                  go_wp2
                  go_ret2
                  exact ⟨.inr ⟨_, rfl, HN.out⟩, HBW.out⟩
            · have HN := Lib.hid (no_tab_block hsc hnb hfoot HI.out.1 hlt hnblk)
              clear hk hnblk
              go_wp2_with fail
              refine HCT.out.mono ?_
              rintro e w5 ⟨rfl, l5⟩
              have HB := Lib.hid (HB1.out.trans ((B4.out.trans (l5.below B4.out.size (Nat.le_refl _))).mono HB1.out.size))
              clear l5
              go_wp2
              go_ret2
              exact ⟨.inr ⟨_, rfl, HN.out⟩, HB.out⟩
          · obtain rfl : i = n0 := by omega
            have hct := rint2_any HI.out.2.2.1 1073741824 (by omega) (by omega)
            cases hc : intS 1073741824 (some R) with | mk c R1 =>
            rw [hc] at hct
            simp only at hct
            have HCT := Lib.hid hct
            have hal : all.length ≤ 8 * i := HI.out.1.hi
            have hcm : c ≤ 1073741824 := by
              have h3 : (intS 1073741824 (some R)).1 ≤ 1073741824 := intS_le 1073741824 (some R)
              rw [hc] at h3; exact h3
            cases hf : textS R1 with | mk f R2 =>
            clear hct
            obtain ⟨hj4, hj5, hj2, hj3⟩ := HJ.out
            go_wp2_with fail
            refine HCT.out.mono ?_
            clear hj4 hj5 hj2 hj3
            rintro e w4 ⟨rfl, l4⟩
            have own4 := left_row l4 hown (by omega)
            have B4 := Lib.hid (HI.out.2.2.2.trans (l4.below HI.out.2.2.2.size (Nat.le_refl _)))
            have hct := rtext2_any l4.1
            rw [hf] at hct
            obtain ⟨F, eF4, eF5, eF6⟩ := tv_text f
            simp only [eF4] at hct
            have HCT2 := Lib.hid hct
            clear hct l4 hown HCT eF4
            go_wp2_with fail
            refine HCT2.out.mono ?_
            rintro e w5 ⟨rfl, l5⟩
            have own5 := left_row l5 own4 (by omega)
            have B5 := Lib.hid (B4.out.trans (l5.below B4.out.size (Nat.le_refl _)))
            have hce := Lib.hid (rend_any l5.1)
            have HBW := Lib.hid (HB1.out.trans (B5.out.mono HB1.out.size))
            clear l5 own4 HCT2
            go_wp2_with fail
            refine hce.out.mono ?_
            rintro e w6 ⟨rfl, rfl⟩
            obtain ⟨va, vc, rfl⟩ := row_slice own5
            by_cases hend : R2 = some []
            · have he : endS R2 = true := by rw [hend]; rfl
              by_cases hcl : c = all.length
              · have hg1 : ((c : Int) != (all.length : Int)) = false := by simp; omega
                by_cases hf1 : f.length < 1
                · have HN := Lib.hid (no_end hsc hnb hfoot HI.out.1 rfl hc hf (by omega) (.inr (.inr (.inl hf1))))
                  have hg2 : (F.size : Int) < 1 := by omega
                  clear hc hf hend
                  go_wp2
                  go_ret2
                  exact ⟨.inr ⟨_, rfl, HN.out⟩, HBW.out⟩
                · have hg2 : ¬ (F.size : Int) < 1 := by omega
                  by_cases hf2 : 8192 < f.length
                  · have HN := Lib.hid (no_end hsc hnb hfoot HI.out.1 rfl hc hf (by omega) (.inr (.inr (.inr (.inl hf2)))))
                    have hg3 : (8192 : Int) < (F.size : Int) := by omega
                    clear hc hf hend
                    go_wp2
                    go_ret2
                    exact ⟨.inr ⟨_, rfl, HN.out⟩, HBW.out⟩
                  · have hg3 : ¬ (8192 : Int) < (F.size : Int) := by omega
                    subst hcl
                    have HNE : Hid (∀ x ∈ all, hasK6 f x.key = false → ∀ l, ¬ IsTab s.data.toList l) := fun x hx hh => no_end hsc hnb hfoot HI.out.1 rfl hc hf (by omega) (.inr (.inr (.inr (.inr ⟨x, hx, hh⟩))))
                    have HRI : Hid (R = putL all.length ++ (putL f.length ++ f)) := end_inv hc (by rw [hf, hend])
                    have hFs : F.size ≤ 8192 := by omega
                    clear hc hf hend
                    go_wp2
                    go_loopw [16] (fun jv wr => ∃ j : Nat, j ≤ all.length ∧ jv = .int .i64 (j : Int) ∧ Hid ((∀ x ∈ all.take j, hasK6 f x.key = true) ∧ Below w5.heap.size w5 wr)) (fun jv _ => all.length - (intOf jv).toNat)
                    case atStart => exact ⟨0, Nat.zero_le _, rfl, (fun x hx => by simp at hx), Below.refl _ _⟩
                    case round =>
                      obtain ⟨j, hj, rfl, HJ2⟩ := hrel
                      by_cases hlt3 : j < all.length
                      · obtain ⟨g0, gc0, hv0, _, _, q0, _, _⟩ := row_pair (ownsRow_below own5 HJ2.out.2) hlt3
                        injection hv0 with hv0 hv1 hv2
                        subst hv0
                        subst hv2
                        have hks : all[j].key.size ≤ 64 := ((fine_iff _).1 (HI.out.1.fine _ (List.getElem_mem hlt3))).2.1
                        have HTK : Hid (hasK6 f all[j].key = true → ∀ x ∈ all.take (j + 1), hasK6 f x.key = true) := fun h x hx => by
                          rw [List.take_succ_eq_append_getElem hlt3] at hx
                          rcases List.mem_append.1 hx with hx | hx
                          · exact HJ2.out.1 x hx
                          · rw [List.mem_singleton.1 hx]; exact h
                        have HNE2 := Lib.hid (HNE.out all[j] (List.getElem_mem hlt3))
                        have hmes : all.length - (intOf (.int .i64 ((j : Int) + 1))).toNat < all.length - (intOf (.int .i64 (j : Int))).toNat := by simp [intOf]; omega
                        generalize all[j] = Y at *
                        obtain ⟨yk, yv, yg⟩ := Y
                        simp only at q0 hks HTK HNE2
                        have HH := rhas_any F yk (by unfold maxLen; omega) (by unfold maxLen; omega) wr
                        rw [eF5] at HH
                        generalize hasK6 f yk = hh at *
                        have HHH := Lib.hid HH
                        clear HH
                        go_wp2_with fail
                        refine HHH.out.mono ?_
                        rintro e w7 ⟨rfl, b7⟩
                        have B7 := Lib.hid (HJ2.out.2.trans (b7.mono HJ2.out.2.size))
                        clear b7 HHH
                        cases hh with
                        | true =>
                          have HT2 := Lib.hid (HTK.out rfl)
                          go_wp2
                          go_roundw
                          case rel => exact ⟨j + 1, by omega, by go_num, HT2.out, B7.out⟩
                          case measure => exact hmes
                        | false =>
                          have HN := Lib.hid (HNE2.out rfl)
                          go_wp2
                          go_ret2
                          exact ⟨.inr ⟨_, rfl, HN.out⟩, HBW.out.trans (B7.out.mono HBW.out.size)⟩
                      · obtain rfl : j = all.length := by omega
                        have HT : Hid (IsTab s.data.toList all) := by
                          have h1 := HJ2.out.1
                          rw [List.take_length] at h1
                          have h2 := HI.out.1
                          rw [HRI.out] at h2
                          exact h2.tab hsc hnb hnb1 hfoot HI.out.2.1 (by omega) (by omega) h1
                        have HOW := Lib.hid (ownsRow_base (base' := w.heap.size) (ownsRow_below own5 HJ2.out.2) (by have := HB1.out.size; omega))
                        have HBZ := Lib.hid (HBW.out.trans (HJ2.out.2.mono HBW.out.size))
                        clear own5 HJ2
                        go_wp2
                        go_ret2
                        exact ⟨.inl ⟨all, _, rfl, HT.out, HOW.out⟩, HBZ.out⟩
              · have HN := Lib.hid (no_end hsc hnb hfoot HI.out.1 rfl hc hf (by omega) (.inr (.inl hcl)))
                have hg1 : ((c : Int) != (all.length : Int)) = true := by simp; omega
                clear hc hf hend
                go_wp2
                go_ret2
                exact ⟨.inr ⟨_, rfl, HN.out⟩, HBW.out⟩
            · have he : endS R2 = false := by
                unfold endS
                simpa using hend
              have HN := Lib.hid (no_end hsc hnb hfoot HI.out.1 rfl hc hf (by omega) (.inl hend))
              clear hc hf hend
              go_wp2
              go_ret2
              exact ⟨.inr ⟨_, rfl, HN.out⟩, HBW.out⟩
      · have HN := Lib.hid (no_count hsc hnb hfoot hsl (by omega) (by rw [hni]) hn0)
        have hg : ((n0 : Int) != (nb : Int)) = true := by simp; omega
        have HB := Lib.hid (HB1.out.trans (B3.out.mono HB1.out.size))
        obtain ⟨hj4, hj5, hj2, hj3⟩ := idx_last (nb := nb) hnbs
        clear hni hn0
        go_wp2
        go_ret2
        exact ⟨.inr ⟨_, rfl, HN.out⟩, HB.out⟩
  · have HN := Lib.hid (no_rest hsc (.inl hrest))
    have hrn : 0 < rest.length := List.length_pos_iff.2 hrest
    have hgn : (((s.size : Int) - (rest.length : Int)) != (s.size : Int)) = true := by simp; omega
    clear hinv
    go_wp2
    go_ret2
    exact ⟨.inr ⟨_, rfl, HN.out⟩, HB1.out⟩
end Go.Proofs.Ytlakemcbfeogkaa

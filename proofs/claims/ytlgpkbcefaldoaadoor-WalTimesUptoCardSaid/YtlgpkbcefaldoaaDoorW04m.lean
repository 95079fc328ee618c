/- Layer 4: the walk of WalTimes. -/
import Derived.Test.YtlgpkbcefaldoaaDoorW04l
import Derived.WalkSmall
import Derived.Deep.CutBlock
import Derived.Deep.CutRange
import Derived.Deep.DeepCutAuto
import Derived.WalkSpells
import Derived.WalkLawsBesides
namespace Go.Proofs.YtlgpkbcefaldoaaDoor
open Go.RowKit Go.Maps Go.WideMaps Go.Shelf
set_option linter.unusedVariables false

/-- Texts that came in, as one element of a slice of such. -/
structure TimeS where
  a : Option Addr
  cap : Nat
  ss : List ByteArray
def TimeS.val (t : TimeS) : Value := .slice t.a t.ss.length t.cap
def TimeS.none : TimeS := ⟨.none, 0, []⟩
structure TimesRow (w : World) (a : Option Addr) (ts : List TimeS) : Prop where
  row : Row1 w a ts.length (fun i => (ts.getD i TimeS.none).val)
  each : ∀ t ∈ ts, Row1 w t.a t.ss.length (fun i => .string (t.ss.getD i ByteArray.empty))
/-- How much they hold. -/
def timesW (ts : List TimeS) : Nat := (ts.map fun t => sizes t.ss + t.ss.length).sum
/-- All the records, one behind the other. -/
def allOf (ts : List TimeS) : List (List UInt8) := ts.flatMap fun t => bytesOf t.ss
theorem timesW_take {ts : List TimeS} {k : Nat} (h : k < ts.length) : timesW (ts.take (k + 1)) = timesW (ts.take k) + (sizes ts[k].ss + ts[k].ss.length) := by
  unfold timesW
  rw [List.take_succ_eq_append_getElem h, List.map_append, List.sum_append]
  simp
theorem timesW_mono (ts : List TimeS) (k : Nat) : timesW (ts.take k) ≤ timesW ts := by
  have : timesW ts = timesW (ts.take k) + timesW (ts.drop k) := by unfold timesW; rw [← List.sum_append, ← List.map_append, List.take_append_drop]
  omega
theorem allOf_take {ts : List TimeS} {k : Nat} (h : k < ts.length) : allOf (ts.take (k + 1)) = allOf (ts.take k) ++ bytesOf ts[k].ss := by
  unfold allOf
  rw [List.take_succ_eq_append_getElem h, List.flatMap_append]
  simp

theorem one_row (w : World) (base : Nat) (hb : base ≤ w.heap.size) (x : Value) (e : TypeId) : (w.alloc (.cells #[x] e)).ownsRow base e 1 (.slice (some ⟨w.heap.size, 0, none⟩) 1 1) 1 [x] :=
  ⟨by simp, .inr ⟨w.heap.size, 1, #[x], rfl, hb, heap_alloc_new w _, Nat.le_refl _, by decide, by simp, by simp⟩⟩

set_option maxRecDepth 100000 in
/-- Numbers that came in are appended to one number. -/
theorem wpList_append_keep {w : World} {ops : Array Oper} {rest : List Oper} {o : Oper} {a : Act} {Q : Exit → Act → World → Prop} (hgd : o.guard = none) (s x : Operand)
    (ho : o.op = .call { callee := .builtin .append, args := #[s, x], argTypes := #[23, 23] }) {base : Nat} {v0 : Value} {k0 : Int} (hs : a.eval s = v0) (hown : w.ownsRow base 3 1 v0 1 [.int .i64 k0])
    {va : Option Addr} {vc : Nat} {ks : List Int} {F : Nat → Prop} (hx : a.eval x = .slice va ks.length vc) (hk : IntsAt F w (.slice va ks.length vc) ks) (hkv : va = none → vc = 0) (hl : ks.length ≤ 1048576) (hbase : base ≤ w.heap.size)
    (h : ∀ v' w', w'.ownsRow base 3 1 v' (k0 :: ks).length ((k0 :: ks).map fun k => .int .i64 k) → w.grownBy w' v0.ownBlock → wpList Tryd.prog ops Q rest (a.put o.dst v') w') : wpList Tryd.prog ops Q (o :: rest) a w := by
  obtain ⟨i0, hi, hz0, hz1, hz2⟩ := info_parts infoInt
  obtain ⟨⟨va', vc', hv, hr⟩, _, _⟩ := hk
  injection hv with e1 _ e3
  subst e1; subst e3
  rcases va with _ | ad
  · have h0 : ks.length = 0 := by
      rcases hr with h0 | ⟨b, off, ha, _⟩
      · exact h0
      · cases ha
    have hk0 : ks = [] := List.eq_nil_of_length_eq_zero h0
    subst hk0
    have hc := hkv rfl
    subst hc
    exact wpList_append_own_none hgd s x _ ho base 3 i0 1 Tryd.underlying23 hi v0 1 _ hs hown hx (h v0 w hown (World.grownBy.refl w _))
  · refine wpList_append_own w hgd s x _ ho base 3 i0 (.int .i64 0) 1 8 Tryd.underlying23 hi hz0 hz1 hz2 rfl (by decide) v0 1 _ hs hown ad ks.length vc (ks.map fun k => .int .i64 k) hx (by simp) ?_ ?_ (by unfold maxLen; omega) (by omega) hbase
      (fun v' w' h2 h3 _ => h v' w' (by rw [List.length_cons, Nat.add_comm]; exact h2) h3)
    · intro j u hu
      rcases hr with h0 | ⟨b, off, ha, _, _, hc⟩
      · rw [List.eq_nil_of_length_eq_zero h0] at hu; simp at hu
      · injection ha with ha
        subst ha
        rw [List.getElem?_map] at hu
        have hj : j < ks.length := by
          rcases Nat.lt_or_ge j ks.length with h1 | h1
          · exact h1
          · rw [List.getElem?_eq_none h1] at hu; simp at hu
        rw [List.getElem?_eq_getElem hj] at hu
        simp only [Option.map_some, Option.some.injEq] at hu
        subst hu
        rw [Addr.add_lit, hc j hj]
        simp [List.getD, hj]
    · intro u hu
      obtain ⟨k, _, rfl⟩ := List.mem_map.1 hu
      rfl

theorem TimesRel.mono {w wr : World} {p : Nat} {av : Value} {xs : List (List UInt8)} {i N M : Nat} (h : TimesRel w wr p av xs i N) (hm : N ≤ M) : TimesRel w wr p av xs i M := by
  obtain ⟨⟨T, F, fs, h1, h2, h3, h4, h5, h6, h7⟩, h8, h9, h10⟩ := h
  exact ⟨⟨T, F, fs, h1, h2, h3, h4, h5, by omega, h7⟩, h8, h9, h10⟩
theorem TimesLog.mono {w wr : World} {q p i N M d : Nat} {av : Value} {ys xs last : List (List UInt8)} (h : TimesLog w wr q p av ys xs last d i N) (hm : N ≤ M) : TimesLog w wr q p av ys xs last d i M := by
  obtain ⟨⟨S, F, fs, h1, h2, h3, h4, h5, h6, h7⟩, h8, h9, h10⟩ := h
  exact ⟨⟨S, F, fs, h1, h2, h3, h4, h5, by omega, h7⟩, h8, h9, h10⟩
theorem TimesLog.drewN {w wr : World} {q p i N d : Nat} {av : Value} {ys xs last : List (List UInt8)} (h : TimesLog w wr q p av ys xs last d i N) (n : Nat) : TimesLog w (wr.drewN n) q p av ys xs last d i N := h.later ⟨rfl, rfl, rfl, Nat.le_refl _, fun _ _ => rfl⟩

theorem tl_sync_any {w wr : World} {q p i N d : Nat} {av : Value} {ys xs last : List (List UInt8)} (h : TimesLog w wr q p av ys xs last d i N) :
    Calls Tryd.prog 12 #[.pointer (some ⟨q, 0, none⟩)] wr fun e w' => e = .returned (.int .i64 0) ∧ TimesLog w w' q p av ys xs last last.length i N := by
  by_cases hne : last = []
  · subst hne
    refine (tl_sync_no h).mono ?_
    rintro e w' ⟨he, rfl⟩
    obtain ⟨⟨S, F, fs, h1, h2, h3, h4⟩, h8, h9, h10⟩ := h
    have hd : d = 0 := by have := h3.dle; simpa using this
    subst hd
    exact ⟨he, ⟨⟨S, F, fs, h1, h2, h3, h4⟩, h8, h9, h10⟩⟩
  · exact tl_sync h hne
/-- The head of a round. -/
structure TimesAt (w wr : World) (p : Nat) (av : Value) (ts : List TimeS) (k : Nat) : Prop where
  rel : TimesRel w wr p av (allOf (ts.take k)) k (15 * timesW (ts.take k) + k * 40)
/-- .. within it, behind j records. -/
structure TimesIn (w wr : World) (q p : Nat) (av : Value) (xs : List (List UInt8)) (k N : Nat) (ss : List ByteArray) (j : Nat) : Prop where
  log : TimesLog w wr q p av (xs ++ bytesOf (ss.take j)) xs (bytesOf (ss.take j)) 0 k (N + sizes (ss.take j) + 15 * j)

/-- The slice and what Open found are the same. -/
theorem times_same {w wr : World} {q p i N d : Nat} {ax : Option Addr} {cx : Nat} {ys xs last : List (List UInt8)} {B : Nat} {va : Option Addr} {vc : Nat} (h : TimesLog w wr q p (.slice ax ys.length cx) ys xs last d i N)
    (ho : wr.ownsRow B 9 1 (.slice va ys.length vc) ys.length (ys.map tx)) (hl : ys.length ≤ 9223372036854775807) :
    Calls Tryd.prog 14 #[.slice va ys.length vc, .slice ax ys.length cx] wr fun e w' => e = .returned (.bool true) ∧ ∃ n, w' = wr.drewN n := by
  obtain ⟨a1, c1, e1, R1⟩ := row1_owns ho rfl hl
  obtain ⟨a2, c2, e2, R2⟩ := row1_owns h.row rfl hl
  injection e1 with e1 _ e3
  subst e1; subst e3
  injection e2 with e1 _ e3
  subst e1; subst e3
  have h1 := same_any va ax ys.length vc ys.length cx ys ys wr rfl rfl R1 R2
  rw [sameB_refl] at h1
  exact h1
theorem allOf_len (ts : List TimeS) : (allOf ts).length ≤ timesW ts := by
  unfold allOf timesW
  rw [List.length_flatMap]
  induction ts with
  | nil => simp
  | cons t r ih =>
    simp only [List.map_cons, List.sum_cons, bytesOf_len] at ih ⊢
    omega
theorem keep_bounds {n : Nat} {ks : List Int} (h : ∀ k ∈ ks, -9223372036854775808 ≤ k ∧ k ≤ 9223372036854775807) : ∀ k ∈ min 5 ((n : Int) + 1) :: ks, -9223372036854775808 ≤ k ∧ k ≤ 9223372036854775807 := by
  intro k hk
  rcases List.mem_cons.1 hk with rfl | hk
  · omega
  · exact h k hk
theorem turn_below_from (B : Nat) {w w' : World} (h : Below B w w') : Turn (fun k => B ≤ k) w w' := ⟨h.os, h.tape, h.output, h.size, fun k _ hk => h.block k (by omega)⟩
theorem kept_min (n : Nat) (ks : List Int) : 1 ≤ keptN (min 5 ((n : Int) + 1) :: ks) 0 ∧ keptN (min 5 ((n : Int) + 1) :: ks) 0 ≤ 5 := by
  unfold keptN
  simp only [List.getD_cons_zero]
  omega

set_option maxHeartbeats 2000000 in
set_option maxRecDepth 100000 in
theorem times_walk (a0 : Option Addr) (l0 c0 : Nat) (ts : List TimeS) (v : Value) (ks : List Int) (w : World) (h0 : TimesRow w a0 ts) (hs : ts.length = l0) (hk : IntsAt (fun k => w.heap.size ≤ k) w v ks) (hkv : ∀ n c, v = .slice none n c → c = 0) (hB : timesW ts ≤ 1048576) (hkl : ks.length ≤ 1048576) (ht : Tab w) :
    Calls Tryd.prog 4 #[.slice a0 l0 c0, v] w fun e w' => e = .returned (.bool true) ∧ Below w.heap.size w w' := by
  have m0 := h0.row.max
  have HT := Lib.hid ht
  have hgl := ht.lt
  have H0 := Lib.hid h0
  have HK := Lib.hid hk
  obtain rfl := hs
  obtain ⟨⟨va, vc, rfl, _⟩, _, hkb⟩ := hk
  have HKV := Lib.hid (show va = none → vc = 0 from fun e => hkv _ _ (by rw [e]))
  have HKB := Lib.hid hkb
  obtain ⟨i0, hi, hz0, hz1, hz2⟩ := info_parts infoStr
  clear h0 ht hkv hkb
  go_enter Tryd.func4, Tryd.ntmps4
  go_wp2_with fail
  refine (awake4_any HT.out).mono ?_
  rintro e w1 ⟨rfl, b1⟩
  by_cases h12 : ts.length ≤ 12
  · go_wp2_with fail
    refine (own_new w.heap.size _ b1.size).mono ?_
    rintro e w2 ⟨p, rfl, h2, c2⟩
    have HST : Hid (TimesAt w w2 p (.slice none 0 0) ts 0) := by
      have hb2 := below_next b1 (Nat.le_refl _) c2
      exact ⟨⟨⟨_, _, [], BoxAt.tight h2, Up.new, LInv.start _, rfl, rfl, Nat.zero_le _, fun k hk => hk, fun k hk => by simp [Value.ownBlock] at hk⟩, World.ownsRow_nil _ _ _ _, tab_later HT.out hb2, hb2⟩⟩
    clear b1 h2 c2
    go_wp2
    go_loopw [5, 6, 25] (fun bv av iv wr => ∃ (k p : Nat), k ≤ ts.length ∧ iv = .int .i64 (k : Int) ∧ bv = .pointer (some ⟨p, 0, none⟩) ∧ Hid (TimesAt w wr p av ts k)) (fun _ _ iv _ => ts.length - (intOf iv).toNat)
    case atStart => exact ⟨0, p, by omega, rfl, rfl, HST.out⟩
    case round =>
      clear HST
      obtain ⟨k, p, hk, rfl, rfl, HR⟩ := hrel
      have hmono := timesW_mono ts k
      have hal := allOf_len (ts.take k)
      have hR := HR.out.rel
      obtain ⟨xs, hxs⟩ : ∃ xs, allOf (ts.take k) = xs := ⟨_, rfl⟩
      obtain ⟨N, hN⟩ : ∃ N, 15 * timesW (ts.take k) + k * 40 = N := ⟨_, rfl⟩
      rw [hxs, hN] at hR
      rw [hxs] at hal
      have hxl : xs.length ≤ 1048576 := by omega
      have hN6 : N ≤ 15729120 := by omega
      obtain ⟨ax, cx, rfl⟩ := ownsRow_slice hR.row
      have HXS := Lib.hid hxs
      have HNN := Lib.hid hN
      have HR2 := Lib.hid hR
      clear HR hR hxs hN hal
      by_cases hlt : k < ts.length
      · obtain ⟨b, off, rfl, hcell⟩ := H0.out.row.in HR2.out.below hlt
        have hget : ts.getD k TimeS.none = ts[k] := by simp [List.getD, hlt]
        rw [hget] at hcell
        have hw1 := timesW_take hlt
        have hw2 := timesW_mono ts (k + 1)
        have HALL := Lib.hid (allOf_take hlt)
        have HEA := Lib.hid (H0.out.each ts[k] (List.getElem_mem hlt))
        have HW1 := Lib.hid hw1
        generalize ts[k] = tk at *
        obtain ⟨xa, xc, ss⟩ := tk
        have hss : sizes ss + ss.length + timesW (ts.take k) ≤ 1048576 := by simp only at hw1; omega
        have hsN : 15 * (sizes ss + ss.length) + N ≤ 15729120 := by have := HNN.out; omega
        change _ = some (Value.slice xa ss.length xc) at hcell
        simp only at HEA HALL HW1
        clear hget hw1 hw2 hmono
        go_wp2_with fail
        refine (tl_open HR2.out hgl (by omega)).mono ?_
        rintro e w5 ⟨q, v5, rfl, h5, ho5⟩
        obtain ⟨va5, vc5, rfl⟩ := ownsRow_slice ho5
        have HS5 := Lib.hid (times_same h5 ho5 (by omega))
        have HIN : Hid (∀ n, TimesIn w (w5.drewN n) q p (.slice ax xs.length cx) xs k N ss 0) := fun n => ⟨by
          have e1 : bytesOf (ss.take 0) = [] := rfl
          have e2 : sizes (ss.take 0) = 0 := rfl
          rw [e1, e2, List.append_nil]
          exact (h5.drewN n).mono (by omega)⟩
        clear h5 ho5
        go_wp2_with (go_at_call 14; refine HS5.out.mono ?_; rintro e w6 ⟨rfl, nn, rfl⟩)
        have HIN0 := Lib.hid (HIN.out nn)
        clear HIN HS5 hcell
        generalize w5.drewN nn = w6 at *
        generalize (Value.slice ax xs.length cx) = av at *
        go_loopw [6, 45] (fun av iv wr => ∃ (j : Nat), j ≤ ss.length ∧ iv = .int .i64 (j : Int) ∧ Hid (TimesIn w wr q p av xs k N ss j)) (fun _ iv _ => ss.length - (intOf iv).toNat)
        case atStart => exact ⟨0, by omega, rfl, HIN0.out⟩
        case round =>
          clear HIN0
          obtain ⟨j, hj, rfl, HI⟩ := hrel
          by_cases hjt : j < ss.length
          · obtain ⟨b2, off2, rfl, hcell⟩ := HEA.out.in HI.out.log.below hjt
            have hget : ss.getD j ByteArray.empty = ss[j] := by simp [List.getD, hjt]
            rw [hget] at hcell
            have hz1 := sizes_take hjt
            have hz2 := sizes_mono ss (j + 1)
            have HZ1 := Lib.hid hz1
            have HBS : Hid (bytesOf (ss.take (j + 1)) = bytesOf (ss.take j) ++ [ss[j].data.toList]) := by
              show _ = _
              rw [List.take_succ_eq_append_getElem hjt]
              unfold bytesOf
              rw [List.map_append]; rfl
            generalize ss[j] = x at *
            have hxs : x.size ≤ 1048576 := by omega
            have hNj : N + sizes (ss.take j) + 15 * j ≤ 16777216 := by omega
            clear hget hz1 hz2
            go_wp2_with fail
            refine (tl_append HI.out.log x hxs hNj).mono ?_
            rintro e w7 ⟨rfl, h7⟩
            obtain ⟨ys, hys⟩ : ∃ ys, xs ++ bytesOf (ss.take j) = ys := ⟨_, rfl⟩
            have hyl : ys.length ≤ 2097152 := by rw [← hys, List.length_append, bytesOf_len, List.length_take]; omega
            rw [hys] at h7
            have HYS := Lib.hid hys
            clear hys
            have H7 := Lib.hid h7
            have hown := (h7.row).alloc (.cells #[.string x] 9)
            have hsz7 := h7.below.size
            clear h7 hcell
            go_wp2_with (first
              | (at_builtin; refine wpList_append_own_at _ rfl (.tmp 53) (.tmp 55) 22 rfl w.heap.size 9 i0 (.string ⟨#[]⟩) 1 16 Tryd.underlying22 hi hz0 hz1 hz2 rfl (by decide) _ _ _ rfl hown ⟨w7.heap.size, 0, none⟩ 1 1 [.string x] rfl rfl ?c1 ?c2 ?c3 ?c4 ?c5 ?_))
            case c1 => exact new_one _ _ _
            case c2 => exact one_str x
            case c3 => unfold maxLen; omega
            case c4 => omega
            case c5 => simp; omega
            intro v' w8 hown' hgrow _ hat
            have HIN1 : Hid (TimesIn w w8 q p v' xs k N ss (j + 1)) := by
              have hb8 : Below w7.heap.size w7 (w7.alloc (.cells #[.string x] 9)) := (Below.refl _ _).alloc (Nat.le_refl _) _
              have hp := tl_push (H7.out.later hb8) hgl (y := x.data.toList) (by rw [tx_data]; exact hown') hgrow (by
                rcases hat with h | h
                · exact .inl h
                · exact .inr (fun k hk => by
                    rw [h] at hk
                    injection hk with hk
                    have e : (w7.alloc (.cells #[.string x] 9)).heap.size = w7.heap.size + 1 := by simp
                    simp only [World.alloc] at hk e ⊢
                    omega))
              refine ⟨?_⟩
              rw [HBS.out, ← List.append_assoc, HYS.out]
              exact hp.mono (by have := HZ1.out; omega)
            clear hown hown' hgrow hat
            go_wp2
            go_roundw
            case rel => exact ⟨j + 1, by omega, by go_num, HIN1⟩
            case measure => simp [intOf]; omega
          · obtain rfl : j = ss.length := by omega
            have hlog := HI.out.log
            rw [List.take_length] at hlog
            have HLG := Lib.hid hlog
            clear hlog HI
            go_wp2_with fail
            refine (tl_sync_any HLG.out).mono ?_
            rintro e w7 ⟨rfl, h7⟩
            have H7 := Lib.hid h7
            clear h7
            go_wp2_with fail
            refine (tl_append H7.out torn (by decide) (by omega)).mono ?_
            rintro e w8 ⟨rfl, h8⟩
            have H8 := Lib.hid h8
            clear h8
            have hown := one_row w8 w8.heap.size (Nat.le_refl _) (.int .i64 (min 5 ((ss.length : Int) + 1))) 3
            have hkk := HK.out.turn (turn_below_from w.heap.size (H8.out.below.alloc H8.out.below.size (.cells #[.int .i64 (min 5 ((ss.length : Int) + 1))] 3))) (fun k hk => hk)
            go_wp2_with (at_builtin; refine wpList_append_keep rfl (.tmp 68) (.tmp 69) rfl rfl hown rfl hkk HKV.out hkl (by simp) ?_; intro v9 w9 hown9 hgrow9; have HCR := Lib.hid (tl_crash H8.out (((Below.refl _ w8).alloc (Nat.le_refl _) _).grown hgrow9 (by simp) (fun k hk => by have hk' : some w8.heap.size = some k := hk; injection hk' with hk'; omega)) rfl (by omega) (by have htz : torn.size = 14 := rfl; omega) hown9 (by simp; omega) (keep_bounds HKB.out) (kept_min ss.length ks).1 (kept_min ss.length ks).2); clear hown9 hgrow9 hown hkk)
            refine HCR.out.mono ?_
            rintro e w10 ⟨p2, rfl, h10⟩
            have HEND : Hid (TimesAt w w10 p2 u6 ts (k + 1)) := by
              refine ⟨?_⟩
              rw [HALL.out, HXS.out]
              exact h10.mono (by have htz : torn.size = 14 := rfl; have := HW1.out; have := HNN.out; omega)
            clear h10 HCR
            go_wp2
            go_roundw
            case rel => exact ⟨k + 1, p2, by omega, by go_num, rfl, HEND⟩
            case measure => simp [intOf]; omega
      · obtain rfl : k = ts.length := by omega
        go_wp2_with fail
        refine (tl_open HR2.out hgl (by omega)).mono ?_
        rintro e w5 ⟨q, v5, rfl, h5, ho5⟩
        obtain ⟨va5, vc5, rfl⟩ := ownsRow_slice ho5
        have HS5 := Lib.hid (times_same h5 ho5 (by omega))
        have HB5 := Lib.hid h5.below
        clear h5 ho5
        go_wp2_with (go_at_call 14; refine HS5.out.mono ?_; rintro e w6 ⟨rfl, nn, rfl⟩)
        go_ret
        exact ⟨rfl, below_drewN HB5.out nn⟩
  · have HB1 := Lib.hid b1
    clear b1
    go_wp2
    go_ret
    exact ⟨rfl, HB1.out⟩
end Go.Proofs.YtlgpkbcefaldoaaDoor

/- Layer 5: the walk of MemLast, whatever the table. -/
import Derived.Test.YtmmamgnbonpkiaaDoorK05s
import Derived.Test.YtmmamgnbonpkiaaDoorW05m
namespace Go.Proofs.YtmmamgnbonpkiaaDoor
open Go.RowKit Go.Maps Go.WideMaps Go.Shelf
set_option linter.unusedVariables false

attribute [local go_sem] Oper.semAt_some

/-- The loop under way: the table, the map beside it. -/
structure LastL (T : World → Nat → List PairS → (Nat → Prop) → Prop) (W0 wr : World) (p mb k : Nat) (l : List PairS) (F : Nat → Prop) : Prop where
  one : OneS T W0 wr p l F
  map : LastM wr mb k l
  box : Boxed wr (mb + 1) 48 (.map (some mb))
  nm : ¬ F mb
  nx : ¬ F (mb + 1)
  low : W0.heap.size ≤ mb
section
variable {T : World → Nat → List PairS → (Nat → Prop) → Prop} {W0 wr w' : World} {p mb k k' : Nat} {l l' : List PairS} {F : Nat → Prop}
theorem LastL.later (K : MemK T) (h : LastL T W0 wr p mb k l F) (hb : Below wr.heap.size wr w') : LastL T W0 w' p mb k l F :=
  ⟨h.one.later K hb, h.map.kept (Turn.of_below (fun _ => False) hb) (fun h => h), (hb.block _ h.box.lt).trans h.box, h.nm, h.nx, h.low⟩
/-- A pair is put, the map is left behind. -/
theorem LastL.refused (K : MemK T) (h : LastL T W0 wr p mb k l F) (hb : T w' p l (Grown F wr w')) (t : Turn F wr w') : LastL T W0 w' p mb (k + 1) l (Grown F wr w') := by
  have h1 := h.map.lt
  have h2 := h.box.lt
  exact ⟨h.one.onTab K hb t, (h.map.kept t h.nm).mono (Nat.le_succ k), (t.block _ h.box.lt h.nx).trans h.box, fun hh => by rcases hh with hh | hh; exact h.nm hh; omega, fun hh => by rcases hh with hh | hh; exact h.nx hh; omega, h.low⟩
theorem LastL.stored (K : MemK T) {x : PairS} (h : LastL T W0 wr p mb k l F) {w1 w2 w3 : World} (hb : T w1 p l' (Grown F wr w1)) (t : Turn F wr w1) (hm : LastM w2 mb (k + 1) l') (hg : w1.grownBy w2 (some mb)) : LastL T W0 w2 p mb (k + 1) l' (Grown F wr w1) := by
  have h1 := h.map.lt
  have h2 := h.box.lt
  have hl := h.low
  have h3 := t.size
  have o1 := h.one.onTab K hb t
  have t2 : Turn (fun i => i = mb) w1 w2 := (Turn.refl _ w1).grown hg (fun k hk => by injection hk with hk; exact .inl hk.symm)
  have nm : ¬ Grown F wr w1 mb := fun hh => by rcases hh with hh | hh; exact h.nm hh; omega
  have nx : ¬ Grown F wr w1 (mb + 1) := fun hh => by rcases hh with hh | hh; exact h.nx hh; omega
  have h4 := t2.size
  refine ⟨⟨K.kept o1.tab t2 (fun j hj e => nm (by rw [← e]; exact hj)), fun j hj => ⟨(o1.f j hj).1, by have := (o1.f j hj).2; omega⟩, o1.below.trans (t2.below (fun i hi => by omega) o1.below.size)⟩, hm, ?_, nm, nx, hl⟩
  exact (t2.block (mb + 1) (by omega) (by omega)).trans ((t.block _ h.box.lt h.nx).trans h.box)
end

/-- The key of the last pair. -/
def lastK (l : List PairS) : ByteArray := match l.getLast? with | some x => x.key | none => ⟨#[]⟩
theorem lastK_snoc (l : List PairS) (x : PairS) : lastK (l ++ [x]) = x.key := by simp [lastK]
/-- A pair that a map can be asked for. -/
def decP (x : PairS) : PairS := if x.key.size ≤ maxLen then x else zeroP
theorem decP_size (x : PairS) : (decP x).key.size ≤ maxLen := by
  unfold decP
  split
  · assumption
  · decide
theorem decP_fine {x : PairS} (h : wrongP x = 0) : decP x = x := by
  have : x.key.size ≤ 64 := by
    unfold wrongP at h
    split at h
    · cases h
    · split at h
      · cases h
      · omega
  unfold decP
  rw [if_pos (by unfold maxLen; omega)]
/-- Does the law's loop go on at x, when 'pre' has come? -/
def GoodP (l pre : List PairS) (x : PairS) : Prop := (getP x.key l).getD zeroP = x ∧ befB (lastK pre) x.key = true
theorem bef_some {k : ByteArray} (h : k.size ≠ 0) : befB ⟨#[]⟩ k = true := by
  rw [befB_lt]
  show ([] : List UInt8) < k.data.toList
  cases hd : k.data.toList with
  | nil =>
    have h1 : k.data.toList.length = 0 := by rw [hd]; rfl
    exact absurd (by simpa using h1) h
  | cons a r => simp
theorem good_at {l pre : List PairS} {x : PairS} (hr : RisingP l) (hf : FineP l) (hp : pre ++ [x] <+: l) : GoodP l pre x := by
  obtain ⟨r, hl⟩ := hp
  have hx : x ∈ l := by rw [← hl]; simp
  refine ⟨by rw [(getP_iff hr x.key x).2 ⟨hx, rfl⟩]; rfl, ?_⟩
  rcases List.eq_nil_or_concat pre with rfl | ⟨q, y, rfl⟩
  · have h := hf x hx
    refine bef_some fun h0 => ?_
    unfold wrongP at h
    rw [if_pos (.inl h0)] at h
    cases h
  · rw [List.concat_eq_append, lastK_snoc]
    have h := hr
    rw [← hl, List.concat_eq_append] at h
    unfold RisingP at h
    have h2 := (List.pairwise_append.1 h).1
    exact (List.pairwise_append.1 h2).2.2 y (by simp) x (by simp)
theorem decs_fine {l : List PairS} (hf : FineP l) {pre : List PairS} (hp : pre <+: l) : pre.map decP = pre := by
  have : ∀ x ∈ pre, decP x = x := fun x hx => decP_fine (hf x (hp.subset hx))
  rw [List.map_congr_left this]
  simp

theorem leq_any (a b : ByteArray) (w : World) : (binOp BinOp.leq 9 (.string a) (.string b)).run Tryd.prog w = .ok (.bool (!befB b a)) w := by
  have e : (Op.bytesLess a.toList b.toList || a.toList == b.toList) = !Op.bytesLess b.toList a.toList := by
    show (befB a b || a.toList == b.toList) = !befB b a
    rw [keyEq]
    by_cases h : a = b
    · subst h; rw [befB_irrefl]; simp
    · cases h1 : befB a b with
      | true => rw [befB_asymm h1]; simp
      | false =>
        have := befB_total h h1
        rw [this]; simp [h]
  simp [binOp, Op.stringOp, e, befB]

theorem results_cell1 {fn : Func} {p : Tmp} {ty : TypeId} (h : fn.results = #[.cell p ty]) (tmps : Array Value) (P : Program) (w : World) :
    (results fn tmps).run P w = ((asAddr (tmps.getD p undef)).run P w).andThen fun a w₁ => (loadVar ty a).run P w₁ := by
  simp only [results, h]
  simp [Sem.run_bind, Result.andThen]

set_option maxHeartbeats 8000000 in
set_option maxRecDepth 100000 in
theorem last5_walk {T : World → Nat → List PairS → (Nat → Prop) → Prop} (K : MemK T) (a0 : Option Addr) (c0 : Nat) (ps : List PairS) (w : World)
    (h0 : ReadP w (.slice a0 ps.length c0) ps) (hN : ps.length ≤ 3518437208780) (hX : ∀ x ∈ ps, x.key.size ≤ maxLen) (hQ : Tab64 w) :
    Calls Tryd.prog 5 #[.slice a0 ps.length c0] w fun e w' => e = .returned (.bool true) ∧ Below w.heap.size w w' := by
  obtain ⟨W0, hW0⟩ : ∃ W0, w.alloc (.cells #[.bool false] 4) = W0 := ⟨_, rfl⟩
  have hb0 : Below w.heap.size w W0 := by rw [← hW0]; exact (Below.refl _ w).alloc (Nat.le_refl _) _
  have hrb : W0.heap[w.heap.size]? = some (.cells #[.bool false] 4 (0, 0)) := by rw [← hW0]; exact heap_alloc_new _ _
  have hQ0 := hQ.below hb0
  have HB0 := Lib.hid hb0
  have HRB := Lib.hid hrb
  have HX := Lib.hid hX
  have H0 := Lib.hid (h0.below hb0)
  have hmm := @run_makeMap Tryd.prog
  clear h0 hb0 hrb hQ hX
  refine (callsIn_wide (n := 6)).1 ?_
  refine callsIn_of_wp_marks Tryd.func5 rfl trivial ?_ rfl
  simp only [Tryd.ntmps5, List.size_toArray, List.length_cons, List.length_nil, Nat.reduceAdd, Nat.reduceSub, Array.replicate_succ, Array.replicate_zero, List.push_toArray, List.append_toArray, List.nil_append, List.cons_append]
  refine wpIn_wide.2 ?_
  go_wp2_with fail
  refine (awake5_any K _ hQ0).mono ?_
  rintro e w1 ⟨rfl, b1⟩
  go_wp2_with fail
  refine (K.new _).mono ?_
  rintro e w2 ⟨p, rfl, h2, b2⟩
  have hs1 := b1.size
  have hs2 := b2.size
  have h2' : OneS T W0 w2 p [] (fun k => w1.heap.size ≤ k ∧ k < w2.heap.size) := ⟨h2, fun j hj => ⟨by have := hj.1; omega, hj.2⟩, b1.trans (b2.mono b1.size)⟩
  have hst : ∃ F, LastL T W0 ((w2.alloc (.map #[] 0)).alloc (.cells #[.map (some w2.heap.size)] 48)) p w2.heap.size 0 [] F := by
    have ha : Below w2.heap.size w2 ((w2.alloc (.map #[] 0)).alloc (.cells #[.map (some w2.heap.size)] 48)) := ((Below.refl _ w2).alloc (Nat.le_refl _) _).alloc (by simp) _
    refine ⟨_, h2'.later K ha, (LastM.made w2).kept (Turn.of_below (fun _ => False) ((Below.refl _ _).alloc (Nat.le_refl _) _)) (fun h => h), ?_, fun hh => by have := hh.2; omega, fun hh => by have := hh.2; omega, by omega⟩
    have := Boxed.new (w2.alloc (.map #[] 0)) 48 (.map (some w2.heap.size))
    rwa [World.size_alloc] at this
  have HST := Lib.hid hst
  have HQ := Lib.hid hQ0
  clear h2 h2' b1 b2 hst hQ0 hs1 hs2
  go_wp2
  go_loopw [18] (fun iv wr => ∃ k : Nat, k ≤ ps.length ∧ iv = .int .i64 (k : Int) ∧ Hid (∃ F, LastL T W0 wr p w2.heap.size k (putsP (ps.take k)) F)) (fun iv _ => ps.length - (intOf iv).toNat)
  case atStart => exact ⟨0, by omega, rfl, HST.out⟩
  case round =>
    clear HST hmm
    obtain ⟨k, hk1, rfl, HR⟩ := hrel
    generalize w2.heap.size = mb at *
    by_cases hlt : k < ps.length
    · obtain ⟨F, h2⟩ := HR.out
      obtain ⟨b, off, rfl, q0, q1, q2⟩ := H0.out.in h2.one.below hlt
      have hz1 := putsP_len ps k
      have hz2 := (putsP_fine (ps.take k)).size
      have HN := Lib.hid (putsP_next hlt)
      have hxk := HX.out ps[k] (List.getElem_mem hlt)
      generalize ps[k] = X at *
      generalize hL : putsP (ps.take k) = L at *
      clear hL
      have hz3 : sizeP L ≤ 36028797018963968 := by omega
      obtain ⟨xk, xv, xg⟩ := X
      simp only at q0 q1 q2
      have hbl := (Below.refl wr.heap.size wr).alloc (Nat.le_refl _) (.cells #[.string xk, .string xv, .bool xg] 31)
      have hpb : PairBox (wr.alloc (.cells #[.string xk, .string xv, .bool xg] 31)) wr.heap.size ⟨xk, xv, xg⟩ := PairBox.new wr ⟨xk, xv, xg⟩
      have TW := Lib.hid (h2.later K hbl)
      have HFl : Hid (¬ F wr.heap.size) := fun h => by have := (h2.one.f _ h).2; omega
      have HPB := Lib.hid hpb
      clear hbl h2 HR hpb
      go_wp2_with fail
      refine (K.put ⟨xk, xv, xg⟩ (HQ.out.below TW.out.one.below) TW.out.one.tab (by omega) hz3).mono ?_
      rintro e wA ⟨rfl, hA, tA⟩
      have hpa : PairBox wA wr.heap.size ⟨xk, xv, xg⟩ := (tA.block _ (block_lt HPB.out) HFl.out).trans HPB.out
      have l0 := hpa.c0
      have l1 := hpa.c1
      have l2 := hpa.c2
      simp only at l0 l1 l2
      have hmA : wA.cell? ⟨mb + 1, 0, none⟩ = some (.map (some mb)) := Boxed.cell (t := 48) ((tA.block _ TW.out.box.lt TW.out.nx).trans TW.out.box)
      have HLA := Lib.hid (TW.out.map.kept tA TW.out.nm)
      generalize wr.alloc (.cells #[.string xk, .string xv, .bool xg] 31) = wl at *
      generalize wr.heap.size = lb at *
      unfold putIf at HN hA
      by_cases hw : wrongP ⟨xk, xv, xg⟩ = 0
      · rw [hw]
        rw [if_pos hw] at HN hA
        obtain ⟨wB, hrun, hm, hg⟩ := HLA.out.put ⟨xk, xv, xg⟩ hxk (by unfold maxLen; omega)
        have TB := Lib.hid (TW.out.stored K (x := ⟨xk, xv, xg⟩) (w3 := wA) hA tA hm hg)
        unfold PairS.val' at hrun
        simp only at hrun
        clear hA tA q0 q1 q2 hpa hm hg hw
        go_wp2
        go_roundw
        case rel => exact ⟨k + 1, by omega, by go_num, by rw [HN.out]; exact ⟨_, TB.out⟩⟩
        case measure => simp [intOf]; omega
      · rw [if_neg hw] at HN hA
        have TB := Lib.hid (TW.out.refused K hA tA)
        generalize wrongP ⟨xk, xv, xg⟩ = wn at *
        have hwn : ((wn : Int) == 0) = false := by rw [beq_eq_false_iff_ne]; omega
        clear hA tA q0 q1 q2 hpa hw
        go_wp2
        go_roundw
        case rel => exact ⟨k + 1, by omega, by go_num, by rw [HN.out]; exact ⟨_, TB.out⟩⟩
        case measure => simp [intOf]; omega
    · obtain ⟨F, hL⟩ := HR.out
      have hz1 := putsP_len ps k
      have hrs := putsP_rising ps k
      have hfi := putsP_fine (ps.take k)
      generalize putsP (ps.take k) = L at *
      have HL := Lib.hid hL
      clear hL HR HX H0
      go_wp2_with fail
      refine (K.len HL.out.one.tab).mono ?_
      rintro e w4 ⟨rfl, b4⟩
      have H4 := Lib.hid (HL.out.later K b4)
      obtain ⟨lo, hlo⟩ : ∃ lo, w4.heap.size = lo := ⟨_, rfl⟩
      have bL : Below w4.heap.size w4 ((w4.alloc (.cells #[.string ⟨#[]⟩] 9)).alloc (.cells #[.int .i64 0] 3)) := ((Below.refl _ w4).alloc (Nat.le_refl _) _).alloc (by simp) _
      have H5 := Lib.hid (H4.out.later K bL)
      have HFL : Hid (∀ j, F j → j < lo) := fun j hj => by have := (H4.out.one.f j hj).2; omega
      have HBL := Lib.hid bL
      clear b4 bL
      go_wp2_with fail
      refine (K.seq ⟨#[]⟩ H5.out.one.tab (by decide)).mono ?_
      rintro e wA ⟨g, lb, Gs, rfl, eg, -, hG, bA, hGF, hgi⟩
      have hgd := hgi decP (fun x hx => decP_fine (hfi x (by rw [from_nil] at hx; exact hx))) wA (Below.refl _ _)
      rw [from_nil] at hgd
      go_wp2_with fail
      have hs4 : ((w4.alloc (.cells #[.string ⟨#[]⟩] 9)).alloc (.cells #[.int .i64 0] 3)).heap.size = lo + 2 := by rw [World.size_alloc, World.size_alloc, hlo]
      have hbx0 : Boxed ((w4.alloc (.cells #[.string ⟨#[]⟩] 9)).alloc (.cells #[.int .i64 0] 3)) lo 9 (.string ⟨#[]⟩) := by rw [← hlo]; exact (Boxed.new _ _ _).alloc _
      have hbx1 : Boxed ((w4.alloc (.cells #[.string ⟨#[]⟩] 9)).alloc (.cells #[.int .i64 0] 3)) (lo + 1) 3 (.int .i64 0) := by
        have := Boxed.new (w4.alloc (.cells #[.string ⟨#[]⟩] 9)) 3 (.int .i64 0)
        rwa [World.size_alloc, hlo] at this
      have hA0 : Boxed wA lo 9 (.string ⟨#[]⟩) := (bA.block lo (by omega)).trans hbx0
      have hA1 : Boxed wA (lo + 1) 3 (.int .i64 0) := (bA.block (lo + 1) (by omega)).trans hbx1
      have hszA : lo + 2 ≤ wA.heap.size := by have := bA.size; omega
      have hGl : ∀ j, Gs j → j ≠ lo ∧ j ≠ lo + 1 := fun j hj => by
        rcases hGF j hj with h | h
        · have := HFL.out j h; omega
        · omega
      have H6 := Lib.hid (H5.out.later K bA)
      have HGL := Lib.hid hGl
      have hmb : mb + 1 < lo := by have := H4.out.box.lt; omega
      have hW0s : W0.heap.size = w.heap.size + 1 := by rw [← hW0]; simp
      have hlow : W0.heap.size ≤ mb := H6.out.low
      have HRA : Hid (wA.heap[w.heap.size]? = some (.cells #[.bool false] 4 (0, 0))) := (H6.out.one.below.block _ (by omega)).trans HRB.out
      have HA0 := Lib.hid hA0
      have HA1 := Lib.hid hA1
      clear bA hgi hGF hbx0 hbx1 hA0 hA1 hGl hlo HL H4 H5 HBL HRB hs4
      refine range_boxD decP (n := 5) 38 11 (by omega) rfl eg hgd (Below.refl _ _) hG rfl
        (fun pre W => Boxed W lo 9 (.string (lastK (pre.map decP))) ∧ Boxed W (lo + 1) 3 (.int .i64 (pre.length : Nat)) ∧ Below lo wA W)
        (fun c pre W => c = .ret ∧ ∃ q x, pre = q ++ [x] ∧ ¬ GoodP L (q.map decP) (decP x))
        (OwnFrom.and (Own.from (boxed_own lo 9 (fun (pre : List PairS) => .string (lastK (pre.map decP)))) _) (OwnFrom.and (Own.from (boxed_own (lo + 1) 3 (fun (pre : List PairS) => .int .i64 (pre.length : Nat))) _) (ownFrom_below (by omega) (by omega))))
        (fun c => ownFrom_pure _ _)
        ⟨HA0.out, HA1.out, Below.refl _ _⟩
        ?assign ?body ?hend
      case assign =>
        rintro l pre x W K' ⟨h1, h2, hB⟩ hK
        have hs := hB.size
        generalize decP x = y at *
        unfold PairS.val' at *
        gi_wp2
        exact hK _ _ (by omega) (PairBox.new W y) ((KeepsOthers.alloc _ _).from _) (Keeps.of_below ((Below.refl _ W).alloc (Nat.le_refl _) _) (fun k hk => by have := hG k hk; omega)) ⟨h1.alloc _, h2.alloc _, hB.alloc (by omega) _⟩
      case body =>
        rintro l pre x Bx W hl ⟨r, hr⟩ ⟨h1, h2, hB⟩ hBx hbx hlt
        have hys := decP_size x
        have HIX : Hid (¬ GoodP L (pre.map decP) (decP x) → ∃ q x', pre ++ [x] = q ++ [x'] ∧ ¬ GoodP L (q.map decP) (decP x')) := fun hn => ⟨pre, x, rfl, hn⟩
        have hlk : lastK ((pre ++ [x]).map decP) = (decP x).key := by rw [List.map_append]; exact lastK_snoc _ _
        have HLK := Lib.hid hlk
        clear hlk
        generalize decP x = y at *
        have x0 := hbx.c0
        have x1 := hbx.c1
        have x2 := hbx.c2
        have c1 := h1.cell
        have f1 := h1.frozen
        have c2 := h2.cell
        have f2 := h2.frozen
        have hs := hB.size
        have tB : Turn (fun i => lo ≤ i) wA W := ⟨hB.os, hB.tape, hB.output, hB.size, fun i hi hni => hB.block i (by omega)⟩
        have hmx : W.cell? ⟨mb + 1, 0, none⟩ = some (.map (some mb)) := Boxed.cell (t := 48) ((hB.block _ (by omega)).trans H6.out.box)
        have hlook := (H6.out.map.kept tB (by omega)).look y.key hys
        have hrW := (hB.block w.heap.size (by omega)).trans HRA.out
        have r0 : W.cell? ⟨w.heap.size, 0, none⟩ = some (.bool false) := by rw [block_cell hrW]; rfl
        have r1 : W.frozen? ⟨w.heap.size, 0, none⟩ = false := block_free hrW 0
        have hlq := leq_any y.key (lastK (pre.map decP))
        have HGD : Hid (GoodP L (pre.map decP) y ↔ (getP y.key L).getD zeroP = y ∧ befB (lastK (pre.map decP)) y.key = true) := Iff.rfl
        generalize lastK (pre.map decP) = bk at *
        generalize (getP y.key L).getD zeroP = z at *
        obtain ⟨yk, yv, yg⟩ := y
        obtain ⟨zk, zv, zg⟩ := z
        unfold PairS.val' at *
        simp only at x0 x1 x2 hlook hlq
        have HZ : Hid (GoodP L (pre.map decP) ⟨yk, yv, yg⟩ → (zk = yk ∧ zv = yv ∧ zg = yg) ∧ befB bk yk = true) := fun h => by
          obtain ⟨h1, h2⟩ := HGD.out.1 h
          simp only [PairS.mk.injEq] at h1
          exact ⟨h1, h2⟩
        clear HGD hbx hys
        by_cases hg1 : yk.toList = zk.toList
        · by_cases hg2 : yv.toList = zv.toList
          · by_cases hg3 : yg = zg
            · obtain rfl := toList_inj hg1
              obtain rfl := toList_inj hg2
              subst hg3
              clear hg1 hg2
              by_cases hbf : befB bk yk = true
              · have hlq2 : ∀ w, (binOp BinOp.leq 9 (.string yk) (.string bk)).run Tryd.prog w = .ok (.bool false) w := fun w => by rw [hlq, hbf]; rfl
                clear hlq
                gi_wp2
                refine ⟨((KeepsOthers.setCell _ _ _).trans (KeepsOthers.setCell _ _ _)).from _, fun j hj => (heap_set_other (HGL.out j hj).2).trans (heap_set_other (HGL.out j hj).1), ?_, ?_, ?_⟩
                · rw [HLK.out]
                  exact (h1.set _).other (by omega) _
                · have := (h2.other (B' := lo) (by omega) (.string yk)).set (.int .i64 ((pre ++ [x]).length : Nat))
                  rw [List.length_append] at this ⊢
                  exact this
                · exact (hB.setCell (p := ⟨lo, 0, none⟩) (Nat.le_refl _) _).setCell (p := ⟨lo + 1, 0, none⟩) (Nat.le_succ _) _
              · have hlq2 : ∀ w, (binOp BinOp.leq 9 (.string yk) (.string bk)).run Tryd.prog w = .ok (.bool true) w := fun w => by rw [hlq]; simp [hbf]
                clear hlq
                gi_wp2
                exact ⟨(KeepsOthers.setCell _ _ _).from _, rfl, HIX.out (fun hh => hbf (HZ.out hh).2)⟩
            · clear hlq
              gi_wp2
              exact ⟨(KeepsOthers.setCell _ _ _).from _, rfl, HIX.out (fun hh => hg3 (HZ.out hh).1.2.2.symm)⟩
          · clear hlq
            gi_wp2
            exact ⟨(KeepsOthers.setCell _ _ _).from _, rfl, HIX.out (fun hh => hg2 (by rw [(HZ.out hh).1.2.1]))⟩
        · clear hlq
          gi_wp2
          exact ⟨(KeepsOthers.setCell _ _ _).from _, rfl, HIX.out (fun hh => hg1 (by rw [(HZ.out hh).1.1]))⟩
      case hend =>
        refine ⟨fun D W hD ⟨h1, h2, hB⟩ hK => ?_, fun D c pre W hD hp ⟨_, q, x, e, hn⟩ hK => absurd ?_ hn⟩
        · have c2 := h2.cell
          have hs := hB.size
          have tB : Turn (fun i => lo ≤ i) wA W := ⟨hB.os, hB.tape, hB.output, hB.size, fun i hi hni => hB.block i (by omega)⟩
          have hmx : W.cell? ⟨mb + 1, 0, none⟩ = some (.map (some mb)) := Boxed.cell (t := 48) ((hB.block _ (by omega)).trans H6.out.box)
          have hlen := (H6.out.map.kept tB (by omega)).len
          have hrW := (hB.block w.heap.size (by omega)).trans HRA.out
          have r0 : W.cell? ⟨w.heap.size, 0, none⟩ = some (.bool false) := by rw [block_cell hrW]; rfl
          have r1 : W.frozen? ⟨w.heap.size, 0, none⟩ = false := block_free hrW 0
          have HK := Lib.hid hK
          have hbE : Hid (Below w.heap.size w (W.setCell ⟨w.heap.size, 0, none⟩ (.bool true))) := by
            have b1 : Below W0.heap.size W0 W := H6.out.one.below.trans (tB.below (fun i hi => by omega) H6.out.one.below.size)
            have b2 := HB0.out.trans (b1.mono HB0.out.size)
            exact b2.setCell (p := ⟨w.heap.size, 0, none⟩) (Nat.le_refl _) _
          have HRW := Lib.hid hrW
          go_wp2_with fail
          have hKE : (W.setCell ⟨w.heap.size, 0, none⟩ (.bool true)).heap[D]? = some (.deferred (some [])) := (KeepsOthers.setCell W ⟨w.heap.size, 0, none⟩ (.bool true)).same D _ HK.out rfl
          refine ⟨by simp, .inl ⟨_, _, rfl, run_takeDeferred hKE, ?_⟩⟩
          have hne : w.heap.size ≠ D := by have := H6.out.one.below.size; omega
          have hres : ((W.setCell ⟨w.heap.size, 0, none⟩ (.bool true)).putObj D (.deferred none)).cell? ⟨w.heap.size, 0, none⟩ = some (.bool true) := by
            have e1 : ((W.setCell ⟨w.heap.size, 0, none⟩ (.bool true)).putObj D (.deferred none)).heap[w.heap.size]? = (W.setCell ⟨w.heap.size, 0, none⟩ (.bool true)).heap[w.heap.size]? := World.putObj_heap_other hne
            have e2 := block_set HRW.out 0 (.bool true)
            rw [block_cell (e1.trans e2)]
            rfl
          refine ⟨_, ?_, rfl, hbE.out.trans (belowK_b (w := w) (Nat.le_refl _) _ D _ _ (by have := HB0.out.size; have := H6.out.one.below.size; omega) hKE rfl rfl)⟩
          rw [results_cell1 rfl]
          go_simp
        · subst e
          rw [decs_fine hfi ((List.prefix_append _ _).trans hp), decP_fine (hfi x (hp.subset (by simp)))]
          exact good_at hrs hfi hp
end Go.Proofs.YtmmamgnbonpkiaaDoor

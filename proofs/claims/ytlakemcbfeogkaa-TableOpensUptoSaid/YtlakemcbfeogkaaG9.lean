/- Joined: K07 K07b K07o K07k. -/
import Derived.Test.YtlakemcbfeogkaaG8
import Derived.Laws.StructEq

namespace Go.Proofs.Ytlakemcbfeogkaa
open Go.RowKit Go.Maps Go.WideMaps Go.Shelf
set_option linter.unusedVariables false

theorem own7_cap {w : World} {base : Nat} {e : TypeId} {sz n c : Nat} {a : Option Addr} {xs : List Value} (h : w.ownsRow base e sz (.slice a n c) n xs) : n ≤ c ∧ c ≤ maxLen := by
  rcases h.2 with ⟨hv, h0⟩ | ⟨g, cap, cur, hv, _, _, h1, h2, _⟩
  · injection hv with _ _ e; subst e; subst h0; exact ⟨Nat.le_refl _, by decide⟩
  · injection hv with _ _ e; subst e; exact ⟨h1, h2⟩
/-- T w p l B: the table at p has the pairs l; all it has lies below B. What its calls do. -/
structure TableK (T : World → Nat → List PairS → Nat → Prop) : Prop where
  below : ∀ {w w' p l B}, T w p l B → Below B w w' → T w' p l B
  build : ∀ {w a c l}, ReadP w (.slice a l.length c) l → l.length ≤ c → l.length ≤ 3518437208780 → Calls Try.prog 8 #[.slice a l.length c] w fun e w' => e = .returned (.tuple #[.string (buildS l), .int .i64 (buildE l : Nat)]) ∧ Below w.heap.size w w'
  opn : ∀ (s : ByteArray) (w : World), s.size ≤ 1099511627776 → Calls Try.prog 10 #[.string s] w fun e w' => ((∃ l p, e = .returned (.tuple #[.pointer (some ⟨p, 0, none⟩), .int .i64 0]) ∧ IsTab s.data.toList l ∧ T w' p l w'.heap.size) ∨ (e = .returned (.tuple #[.pointer none, .int .i64 60]) ∧ ∀ l, ¬ IsTab s.data.toList l)) ∧ Below w.heap.size w w'
  len : ∀ {w p l B}, T w p l B → B ≤ w.heap.size → Calls Try.prog 14 #[.pointer (some ⟨p, 0, none⟩)] w fun e w' => e = .returned (.int .i64 (l.length : Nat)) ∧ Below w.heap.size w w'
  get : ∀ {w p l B} k, T w p l B → B ≤ w.heap.size → Calls Try.prog 12 #[.pointer (some ⟨p, 0, none⟩), .string k] w fun e w' => e = .returned (.tuple #[((getP k l).getD zeroP).val', .bool (getP k l).isSome]) ∧ Below w.heap.size w w'
  seq : ∀ {w p l B} k, T w p l B → B ≤ w.heap.size → k.size ≤ 281474976710656 → Calls Try.prog 17 #[.pointer (some ⟨p, 0, none⟩), .string k] w fun e w' => ∃ g lb G, e = .returned (.func (.func g) #[] lb) ∧ (∀ args w, (callFunc g args).run Try.prog w = .ok (.enter g args) w) ∧ (∀ w'', Below w'.heap.size w' w'' → GivesP Fence.wide 4 g lb G (fromP k l) w'') ∧ (∀ j, G j → j < w'.heap.size) ∧ Below w.heap.size w w' ∧ ∀ j, G j → j < B ∨ w.heap.size ≤ j

set_option maxHeartbeats 2000000 in
set_option maxRecDepth 100000 in
theorem laid_any {w : World} {a : Option Addr} {c : Nat} {ps : List PairS} (h : ReadP w (.slice a ps.length c) ps) (hN : ps.length ≤ 3518437208780) :
    Calls Try.prog 19 #[.slice a ps.length c] w fun e w' => ∃ v, e = .returned v ∧ w'.ownsRow 0 39 3 v (putsP ps).length (rowP (putsP ps)) ∧ Below w.heap.size w w' := by
  have hnew := heap_alloc_new w (.cells #[.slice none 0 0] 37)
  have hsz : (w.alloc (.cells #[.slice none 0 0] 37)).heap.size = w.heap.size + 1 := by simp
  have hst : ∃ F, RTabAt (w.alloc (.cells #[.slice none 0 0] 37)) w.heap.size (putsP (ps.take 0)) F ∧ (∀ j, F j → w.heap.size ≤ j ∧ j < (w.alloc (.cells #[.slice none 0 0] 37)).heap.size) ∧ Below w.heap.size w (w.alloc (.cells #[.slice none 0 0] 37)) :=
    ⟨fun j => j = w.heap.size, ⟨_, hnew, World.ownsRow_nil _ _ _ _, rfl, fun k hk => by simp [Value.ownBlock] at hk⟩, fun j hj => by omega, (Below.refl _ w).alloc (Nat.le_refl _) _⟩
  have HST := Lib.hid hst
  have H := Lib.hid h
  clear hnew hst h hsz
  go_enter Try.func19, Try.ntmps19
  go_wp2
  generalize w.alloc (.cells #[.slice none 0 0] 37) = w0 at *
  go_loopw [10] (fun iv wr => ∃ i : Nat, i ≤ ps.length ∧ iv = .int .i64 (i : Int) ∧ Hid (∃ F, RTabAt wr w.heap.size (putsP (ps.take i)) F ∧ (∀ j, F j → w.heap.size ≤ j ∧ j < wr.heap.size) ∧ Below w.heap.size w wr)) (fun iv _ => ps.length - (intOf iv).toNat)
  case atStart => exact ⟨0, Nat.zero_le _, rfl, HST.out⟩
  case round =>
    clear HST
    obtain ⟨i, hi, rfl, HR⟩ := hrel
    by_cases hlt : i < ps.length
    · obtain ⟨F, h1, h2, h3⟩ := HR.out
      obtain ⟨b, off, rfl, q0, q1, q2⟩ := H.out.in h3 hlt
      have hz := putsP_len ps i
      have HN := Lib.hid (putsP_next hlt)
      generalize ps[i] = X at *
      obtain ⟨xk, xv, xg⟩ := X
      simp only at q0 q1 q2
      generalize putsP (ps.take i) = L at *
      have hb4 : Below w.heap.size w (wr.alloc (.cells #[.string xk, .string xv, .bool xg] 39)) := h3.alloc h3.size _
      have hr4 : RTabAt (wr.alloc (.cells #[.string xk, .string xv, .bool xg] 39)) w.heap.size L F := h1.below ((Below.refl _ wr).alloc (Nat.le_refl _) _)
      have hf4 : ∀ j, F j → w.heap.size ≤ j ∧ j < (wr.alloc (.cells #[.string xk, .string xv, .bool xg] 39)).heap.size := fun j hj => ⟨(h2 j hj).1, by have := (h2 j hj).2; simp; omega⟩
      have HR4 := Lib.hid (And.intro hr4 (And.intro hf4 hb4))
      clear HR h1 h2 h3 hb4 hr4 hf4
      go_wp2_with fail
      refine (rput5_any HR4.out.1 ⟨xk, xv, xg⟩ (by omega)).mono ?_
      rintro e w5 ⟨rfl, hA, tA⟩
      have HR5 : Hid (∃ F, RTabAt w5 w.heap.size (putIf ⟨xk, xv, xg⟩ L) F ∧ (∀ j, F j → w.heap.size ≤ j ∧ j < w5.heap.size) ∧ Below w.heap.size w w5) := by
        have hs4 := HR4.out.2.2.size
        have hs5 := tA.size
        refine ⟨_, hA, fun j hj => ?_, HR4.out.2.2.trans (tA.below (fun j hj => (HR4.out.2.1 j hj).1) hs4)⟩
        rcases hj with hj | hj
        · exact ⟨(HR4.out.2.1 j hj).1, by have := (HR4.out.2.1 j hj).2; omega⟩
        · exact ⟨by omega, hj.2⟩
      clear hA tA HR4 q0 q1 q2
      go_wp2
      go_roundw
      case rel => exact ⟨i + 1, by omega, by go_num, by rw [HN.out]; exact HR5.out⟩
      case measure => simp [intOf]; omega
    · obtain rfl : i = ps.length := by omega
      rw [List.take_length] at HR
      obtain ⟨F, ⟨v, h1⟩, h2, h3⟩ := HR.out
      have c0 := h1.c0
      have HV := Lib.hid h1.row
      have HB := Lib.hid h3
      obtain ⟨va, vc, rfl⟩ := row_slice h1.row
      clear h1 h2 h3 HR
      go_wp2
      go_ret
      exact ⟨_, rfl, HV.out, HB.out⟩

def pA7 : PairS := ⟨⟨#[97]⟩, ⟨#[49]⟩, false⟩
def pB7 : PairS := ⟨⟨#[98]⟩, ⟨#[]⟩, true⟩
theorem rise7 : RisingP [pA7, pB7] := List.pairwise_pair.2 bef_ab
theorem fine7 : FineP [pA7, pB7] := fun x hx => by
  rcases List.mem_cons.1 hx with rfl | hx
  · rfl
  · rw [List.mem_singleton.1 hx]; rfl
/-- A footer is short where the pairs are few. -/
theorem foot_len {l : List PairS} (hf : FineP l) (hl : l.length ≤ 65536) : (footL l (filtL l)).length ≤ 1048576 := by
  have h1 := firsts_len hf (partsN l.length)
  have h2 : (filtL l).length = min (l.length + 8) 8192 := by unfold filtL; rw [makeL_len]
  have h3 : partsN l.length ≤ 8192 := by unfold partsN; omega
  have e1 := putL_len10 (small8 (n := partsN l.length) (by omega))
  have e2 := putL_len10 (small8 (n := l.length) (by omega))
  have e3 := putL_len10 (small8 (n := (filtL l).length) (by omega))
  unfold footL
  simp only [List.length_append]
  omega
theorem build_fine {l : List PairS} (hne : l ≠ []) (hr : RisingP l) (hf : FineP l) : buildE l = if 1048576 < (footL l (filtL l)).length then 2 else 0 := by
  unfold buildE
  rw [if_neg hne, if_neg (by rw [(bad_zero l).2 ⟨hr, hf⟩]; simp)]
theorem build7 : buildE [pA7, pB7] = 0 := by
  rw [build_fine (by simp) rise7 fine7, if_neg]
  have := foot_len fine7 (by simp)
  omega
theorem buildS_size (l : List PairS) : (buildS l).size ≤ 1099511627776 := by
  unfold buildS
  split
  · rename_i h
    obtain ⟨flt, hok, e⟩ := build_tab h
    have hf := hok.fine
    rw [tx_size]
    have h1 := frames_len hf (partsN l.length)
    have h2 : partsN l.length ≤ 1048576 := by
      have := tab_few hok
      unfold partsN; omega
    have h3 : (footL l (filtL l)).length ≤ 1048576 := by
      unfold buildE at h
      split at h
      · cases h
      · split at h
        · omega
        · split at h
          · cases h
          · omega
    have h4 := frameL_le h3
    unfold tabL
    rw [List.length_append]
    omega
  · exact Nat.zero_le _
theorem no_empty : ∀ l, ¬ IsTab ([] : List UInt8) l := by
  refine no_rest (fs := []) (rest := []) ?_ (.inr (by simp))
  exact scanL_bad (by rw [nextL_nil]; simp)
end Go.Proofs.Ytlakemcbfeogkaa

namespace Go.Proofs.Ytlakemcbfeogkaa
open Go.RowKit Go.Maps Go.WideMaps Go.Shelf
set_option linter.unusedVariables false

theorem get7_b : getP ⟨#[98]⟩ [pA7, pB7] = some pB7 := getP_at rise7 (i := 1) (by simp)

set_option maxHeartbeats 2000000 in
set_option maxRecDepth 100000 in
theorem awake7_any {T : World → Nat → List PairS → Nat → Prop} (K : TableK T) (w : World) :
    Calls Try.prog 7 #[] w fun e w' => e = .returned (.bool true) ∧ Below w.heap.size w w' := by
  have hnew := heap_alloc_new w (.cells #[.string ⟨#[97]⟩, .string ⟨#[49]⟩, .bool false, .string ⟨#[98]⟩, .string ⟨#[]⟩, .bool true] 39)
  have hb0 : Below w.heap.size w (w.alloc (.cells #[.string ⟨#[97]⟩, .string ⟨#[49]⟩, .bool false, .string ⟨#[98]⟩, .string ⟨#[]⟩, .bool true] 39)) := (Below.refl _ w).alloc (Nat.le_refl _) _
  have hr : ReadP (w.alloc (.cells #[.string ⟨#[97]⟩, .string ⟨#[49]⟩, .bool false, .string ⟨#[98]⟩, .string ⟨#[]⟩, .bool true] 39)) (.slice (some ⟨w.heap.size, 0, none⟩) 2 2) [pA7, pB7] := by
    refine ⟨by decide, _, _, rfl, .inr ⟨w.heap.size, 0, rfl, fun i hi => ?_⟩⟩
    rw [block_cell hnew, block_cell hnew, block_cell hnew]
    match i, hi with
    | 0, _ | 1, _ => exact ⟨rfl, rfl, rfl⟩
  have hbd := K.build (a := some ⟨w.heap.size, 0, none⟩) (c := 2) (l := [pA7, pB7]) hr (by simp) (by simp)
  have hop := fun w => K.opn (buildS [pA7, pB7]) w (buildS_size _)
  have hop2 := fun w => K.opn ⟨#[]⟩ w (by decide)
  have HT := Lib.hid (build_tab build7)
  rw [build7] at hbd
  have HB0 := Lib.hid hb0
  have HBD := Lib.hid hbd
  have HOP := Lib.hid hop
  have HOP2 := Lib.hid hop2
  clear hnew hb0 hr hbd hop hop2
  generalize buildS [pA7, pB7] = S at *
  go_enter Try.func7, Try.ntmps7
  go_wp2_with fail
  refine HBD.out.mono ?_
  rintro e w1 ⟨rfl, b1⟩
  have B1 := Lib.hid (HB0.out.trans (b1.mono HB0.out.size))
  clear b1 HBD
  go_wp2_with fail
  refine (HOP.out _).mono ?_
  rintro e w2 ⟨h2, b2⟩
  have B2 := Lib.hid (B1.out.trans (b2.mono B1.out.size))
  rcases h2 with ⟨l, p, rfl, ht, hT⟩ | ⟨rfl, hn⟩
  · have hl := tab_one ht HT.out
    subst hl
    have HTT := Lib.hid hT
    clear b2 HOP ht hT
    go_wp2_with fail
    refine (K.get ⟨#[98]⟩ HTT.out (Nat.le_refl _)).mono ?_
    rintro e w3 ⟨rfl, b3⟩
    rw [get7_b]
    have T3 := Lib.hid (K.below HTT.out b3)
    have B3 := Lib.hid (B2.out.trans (b3.mono B2.out.size))
    have hb3 := b3.size
    clear b3 HTT
    have hbl := (Below.refl w3.heap.size w3).alloc (Nat.le_refl _) (.cells #[.string ⟨#[98]⟩, .string ⟨#[]⟩, .bool true] 39)
    have hnw := heap_alloc_new w3 (.cells #[.string ⟨#[98]⟩, .string ⟨#[]⟩, .bool true] 39)
    have T4 := Lib.hid (K.below T3.out (hbl.mono hb3))
    have B4 := Lib.hid (B3.out.trans (hbl.mono B3.out.size))
    have HNW := Lib.hid hnw
    have hs4 : (w3.alloc (.cells #[.string ⟨#[98]⟩, .string ⟨#[]⟩, .bool true] 39)).heap.size = w3.heap.size + 1 := by simp
    have HS4 := Lib.hid hs4
    clear hbl hnw hs4 T3
    simp only [show ((some pB7).getD zeroP).val' = .agg #[.string ⟨#[98]⟩, .string ⟨#[]⟩, .bool true] from rfl, show (some pB7).isSome = true from rfl]
    go_wp2_with fail
    generalize w3.alloc (.cells #[.string ⟨#[98]⟩, .string ⟨#[]⟩, .bool true] 39) = w4 at *
    refine (HOP2.out w4).mono ?_
    rintro e w5 ⟨h5, b5⟩
    rcases h5 with ⟨l5, p5, rfl, ht5, _⟩ | ⟨rfl, hn5⟩
    · exact absurd ht5 (no_empty l5)
    · have T5 := Lib.hid (K.below T4.out (b5.mono (by have := HS4.out; omega)))
      have B5 := Lib.hid (B4.out.trans (b5.mono B4.out.size))
      have hn5' := (b5.block _ (block_lt HNW.out)).trans HNW.out
      have hle : w2.heap.size ≤ w5.heap.size := by have := b5.size; have := HS4.out; omega
      clear b5 T4 HNW hn5
      have c2 : w5.cell? ⟨w3.heap.size, 2, none⟩ = some (.bool true) := by rw [block_cell hn5']; rfl
      have HN5 := Lib.hid hn5'
      clear hn5'
      go_wp2_with fail
      refine (K.len T5.out hle).mono ?_
      rintro e w6 ⟨rfl, b6⟩
      have B6 := Lib.hid (B5.out.trans (b6.mono B5.out.size))
      have hn6 := (b6.block _ (block_lt HN5.out)).trans HN5.out
      have d2 : w6.cell? ⟨w3.heap.size, 2, none⟩ = some (.bool true) := by rw [block_cell hn6]; rfl
      clear c2 hn6 b6
      go_wp2
      go_ret
      exact ⟨rfl, B6.out⟩
  · exact absurd HT.out (hn _)

set_option maxHeartbeats 1000000 in
set_option maxRecDepth 100000 in
theorem builds7_walk {T : World → Nat → List PairS → Nat → Prop} (K : TableK T) (a0 : Option Addr) (c0 : Nat) (ps : List PairS) (w : World) (h0 : ReadP w (.slice a0 ps.length c0) ps) (hN : ps.length ≤ 3518437208780) (hC : ps.length ≤ c0) :
    Calls Try.prog 3 #[.slice a0 ps.length c0] w fun e w' => e = .returned (.bool true) ∧ Below w.heap.size w w' := by
  have hbd := fun w' (b : Below w.heap.size w w') => K.build (h0.below b) hC hN
  have hrb := fun w' (b : Below w.heap.size w w') => rbuild_any (h0.below b) hN
  generalize buildS ps = S at *
  generalize buildE ps = E at *
  have HBD := Lib.hid hbd
  have HRB := Lib.hid hrb
  clear hbd hrb h0
  go_enter Try.func3, Try.ntmps3
  go_wp2_with fail
  refine (awake7_any K _).mono ?_
  rintro e w1 ⟨rfl, b1⟩
  have B1 := Lib.hid b1
  clear b1
  go_wp2_with fail
  refine (HBD.out _ B1.out).mono ?_
  rintro e w2 ⟨rfl, b2⟩
  have B2 := Lib.hid (B1.out.trans (b2.mono B1.out.size))
  clear b2
  go_wp2_with fail
  refine (HRB.out _ B2.out).mono ?_
  rintro e w3 ⟨rfl, b3⟩
  have B3 := Lib.hid (B2.out.trans (b3.mono B2.out.size))
  clear b3
  go_wp2
  go_ret
  exact ⟨rfl, B3.out⟩
end Go.Proofs.Ytlakemcbfeogkaa

namespace Go.Proofs.Ytlakemcbfeogkaa
open Go.RowKit Go.Maps Go.WideMaps Go.Shelf
set_option linter.unusedVariables false

/-- A box with a pair, later. -/
theorem box_later {w w' : World} {b : Nat} {k v : ByteArray} {g : Bool} (h : w.heap[b]? = some (.cells #[.string k, .string v, .bool g] 39 (0, 0))) (t : Below w.heap.size w w') : w'.heap[b]? = some (.cells #[.string k, .string v, .bool g] 39 (0, 0)) := (t.block _ (block_lt h)).trans h
theorem box_cells {w : World} {b : Nat} {k v : ByteArray} {g : Bool} (h : w.heap[b]? = some (.cells #[.string k, .string v, .bool g] 39 (0, 0))) : w.cell? ⟨b, 0, none⟩ = some (.string k) ∧ w.cell? ⟨b, 1, none⟩ = some (.string v) ∧ w.cell? ⟨b, 2, none⟩ = some (.bool g) :=
  ⟨by rw [block_cell h]; rfl, by rw [block_cell h]; rfl, by rw [block_cell h]; rfl⟩

set_option maxHeartbeats 4000000 in
set_option maxRecDepth 100000 in
theorem opens7_walk {T : World → Nat → List PairS → Nat → Prop} (K : TableK T) (s key : ByteArray) (w : World) (hs : s.size ≤ 16777216) (hk : key.size ≤ 281474976710656) :
    Calls Try.prog 4 #[.string s, .string key] w fun e w' => e = .returned (.bool true) ∧ Below w.heap.size w w' := by
  have HOP := Lib.hid (fun w => K.opn s w (by omega))
  have HRO := Lib.hid (fun w => ropen_any s (by omega) w)
  go_enter Try.func4, Try.ntmps4
  go_wp2_with fail
  refine (awake7_any K _).mono ?_
  rintro e w1 ⟨rfl, b1⟩
  have B1 := Lib.hid b1
  clear b1
  go_wp2_with fail
  refine (HOP.out w1).mono ?_
  rintro e w2 ⟨h2, b2⟩
  have B2 := Lib.hid (B1.out.trans (b2.mono B1.out.size))
  clear b2
  rcases h2 with ⟨l, p, rfl, ht, hT⟩ | ⟨rfl, hn⟩
  · have HT2 := Lib.hid hT
    clear hT
    go_wp2_with fail
    refine (HRO.out w2).mono ?_
    rintro e w3 ⟨h3, b3⟩
    rcases h3 with ⟨l', v, rfl, ht', hrow⟩ | ⟨v, rfl, hn⟩
    · have hl := tab_one ht' ht
      subst hl
      have B3 := Lib.hid (B2.out.trans (b3.mono B2.out.size))
      have T3 := Lib.hid (K.below HT2.out b3)
      have h23 := b3.size
      have hll : l'.length ≤ 8388608 := by
        obtain ⟨flt, hok, _⟩ := ht
        exact tab_few hok
      obtain ⟨va, vc, rfl⟩ := row_slice hrow
      have hbl := (Below.refl w3.heap.size w3).alloc (Nat.le_refl _) (.cells #[.slice va l'.length vc] 37)
      have hnw := heap_alloc_new w3 (.cells #[.slice va l'.length vc] 37)
      have hRT : RTabAt (w3.alloc (.cells #[.slice va l'.length vc] 37)) w3.heap.size l' (fun _ => True) := ⟨_, hnw, ownsRow_below (ownsRow_base hrow (Nat.zero_le _)) hbl, trivial, fun _ _ => trivial⟩
      have HRT := Lib.hid hRT
      have HRP := Lib.hid ((ReadP.own hrow).below hbl)
      have T4 := Lib.hid (K.below T3.out (hbl.mono h23))
      have B4 := Lib.hid (B3.out.trans (hbl.mono B3.out.size))
      have h24 : w2.heap.size ≤ (w3.alloc (.cells #[.slice va l'.length vc] 37)).heap.size := by simp; omega
      clear hbl hnw hRT hrow b3 T3 ht ht' HT2 HRO HOP
      go_wp2_with fail
      generalize w3.alloc (.cells #[.slice va l'.length vc] 37) = w4 at *
      refine (K.get key T4.out h24).mono ?_
      rintro e w5 ⟨rfl, b5⟩
      obtain ⟨Y, hY⟩ : ∃ Y, (getP key l').getD zeroP = Y := ⟨_, rfl⟩
      rw [hY]
      obtain ⟨yk, yv, yg⟩ := Y
      have hbl := (Below.refl w5.heap.size w5).alloc (Nat.le_refl _) (.cells #[.string yk, .string yv, .bool yg] 39)
      have b6 := b5.trans (hbl.mono b5.size)
      have HN6 := Lib.hid (heap_alloc_new w5 (.cells #[.string yk, .string yv, .bool yg] 39))
      have T6 := Lib.hid (K.below T4.out (b6.mono h24))
      have B6 := Lib.hid (B4.out.trans (b6.mono B4.out.size))
      have RT6 := Lib.hid (HRT.out.below b6)
      have RP6 := Lib.hid (HRP.out.below b6)
      have h26 := Nat.le_trans h24 b6.size
      clear hbl b5 b6 T4 HRT HRP h24
      unfold PairS.val'
      go_wp2_with fail
      generalize w5.alloc (.cells #[.string yk, .string yv, .bool yg] 39) = w6 at *
      obtain ⟨v6, hv6⟩ := RT6.out
      have hrg := rget5_any hv6 key
      rw [hY] at hrg
      unfold PairS.val' at hrg
      refine hrg.mono ?_
      rintro e w7 ⟨rfl, b7⟩
      have HN7 := Lib.hid (box_later HN6.out b7)
      have hbl := (Below.refl w7.heap.size w7).alloc (Nat.le_refl _) (.cells #[.string yk, .string yv, .bool yg] 39)
      have b8 := b7.trans (hbl.mono b7.size)
      have HN8 := Lib.hid (heap_alloc_new w7 (.cells #[.string yk, .string yv, .bool yg] 39))
      have HN8b := Lib.hid (box_later HN7.out hbl)
      have T8 := Lib.hid (K.below T6.out (b8.mono h26))
      have B8 := Lib.hid (B6.out.trans (b8.mono B6.out.size))
      have RT8 := Lib.hid (RT6.out.below b8)
      have RP8 := Lib.hid (RP6.out.below b8)
      have h28 := Nat.le_trans h26 b8.size
      clear hbl b7 b8 T6 RT6 RP6 h26 hrg hv6 HN7 HN6
      go_wp2_with fail
      generalize w7.alloc (.cells #[.string yk, .string yv, .bool yg] 39) = w8 at *
      generalize (getP key l').isSome = ok at *
      refine (K.len T8.out h28).mono ?_
      rintro e w9 ⟨rfl, b9⟩
      have T9 := Lib.hid (K.below T8.out (b9.mono h28))
      have B9 := Lib.hid (B8.out.trans (b9.mono B8.out.size))
      have RT9 := Lib.hid (RT8.out.below b9)
      have RP9 := Lib.hid (RP8.out.below b9)
      have h29 := Nat.le_trans h28 b9.size
      obtain ⟨d0, d1, d2⟩ := box_cells (box_later HN8.out b9)
      obtain ⟨e0, e1, e2⟩ := box_cells (box_later HN8b.out b9)
      clear b9 T8 RT8 RP8 h28 HN8 HN8b hY
      go_wp2_with fail
      refine (K.seq key T9.out h29 hk).mono ?_
      rintro e wA ⟨g, lb, G, rfl, eg, hgi, hG, bA, -⟩
      have hfl : (fromP key l').length ≤ 3518437208880 := by unfold fromP; rw [List.length_drop]; omega
      have hcol := collect_any g lb eg G (fromP key l') wA hG hfl (hgi _ (Below.refl _ _))
      have TA := Lib.hid (K.below T9.out (bA.mono h29))
      have BA := Lib.hid (B9.out.trans (bA.mono B9.out.size))
      have RTA := Lib.hid (RT9.out.below bA)
      have RPA := Lib.hid (RP9.out.below bA)
      have h2A := Nat.le_trans h29 bA.size
      clear bA hgi T9 RT9 RP9 h29 d0 d1 d2 e0 e1 e2
      go_wp2_with fail
      refine hcol.mono ?_
      rintro e wB ⟨vB, rfl, oB, bB⟩
      have TB := Lib.hid (K.below TA.out (bB.mono h2A))
      have BB := Lib.hid (BA.out.trans (bB.mono BA.out.size))
      have RTB := Lib.hid (RTA.out.below bB)
      have RPB := Lib.hid (RPA.out.below bB)
      have rB := Lib.hid (ReadP.own oB)
      have h2B := Nat.le_trans h2A bB.size
      clear bB hcol oB TA RTA RPA h2A
      go_wp2_with fail
      refine (rfrom_at RTB.out key).mono ?_
      rintro e wC ⟨vC, rfl, rC, bC⟩
      have TC := Lib.hid (K.below TB.out (bC.mono h2B))
      have BC := Lib.hid (BB.out.trans (bC.mono BB.out.size))
      have RPC := Lib.hid (RPB.out.below bC)
      have h2C := Nat.le_trans h2B bC.size
      have hsm := rsame_any (rB.out.below bC) rC
      rw [sameP_refl] at hsm
      clear bC TB RTB RPB h2B rB rC
      go_wp2_with fail
      refine hsm.mono ?_
      rintro e wD ⟨rfl, nD, rfl⟩
      have TD := Lib.hid (K.below TC.out ((drawnB wC nD).mono h2C))
      have BD := Lib.hid (BC.out.trans ((drawnB wC nD).mono BC.out.size))
      have RPD := Lib.hid (RPC.out.below (drawnB wC nD))
      have h2D := Nat.le_trans h2C (drawnB wC nD).size
      generalize wC.drewN nD = wD at *
      clear hsm TC RPC h2C
      go_wp2_with fail
      refine (K.seq ⟨#[]⟩ TD.out h2D (by decide)).mono ?_
      rintro e wE ⟨g2, lb2, G2, rfl, eg2, hgi2, hG2, bE, -⟩
      have hcol := collect_any g2 lb2 eg2 G2 (fromP ⟨#[]⟩ l') wE hG2 (by rw [from_nil]; omega) (hgi2 _ (Below.refl _ _))
      rw [from_nil] at hcol
      have BE := Lib.hid (BD.out.trans (bE.mono BD.out.size))
      have RPE := Lib.hid (RPD.out.below bE)
      clear bE hgi2 TD RPD
      go_wp2_with fail
      refine hcol.mono ?_
      rintro e wF ⟨vF, rfl, oF, bF⟩
      have BF := Lib.hid (BE.out.trans (bF.mono BE.out.size))
      have hsm := rsame_any (ReadP.own oF) (RPE.out.below bF)
      rw [sameP_refl] at hsm
      clear bF hcol oF RPE
      go_wp2_with fail
      refine hsm.mono ?_
      rintro e wG ⟨rfl, nG, rfl⟩
      have BG := Lib.hid (BF.out.trans ((drawnB wF nG).mono BF.out.size))
      clear hsm
      go_wp2
      go_ret
      exact ⟨rfl, BG.out⟩
    · exact absurd ht (hn _)
  · go_wp2_with fail
    refine (HRO.out w2).mono ?_
    rintro e w3 ⟨h3, b3⟩
    rcases h3 with ⟨l', v, rfl, ht', hrow⟩ | ⟨v, rfl, hn2⟩
    · exact absurd ht' (hn _)
    · have B3 := Lib.hid (B2.out.trans (b3.mono B2.out.size))
      clear hn hn2 b3
      go_wp2
      go_ret
      exact ⟨rfl, B3.out⟩
end Go.Proofs.Ytlakemcbfeogkaa

namespace Go.Proofs.Ytlakemcbfeogkaa
open Go.RowKit Go.Maps Go.WideMaps Go.Shelf
set_option linter.unusedVariables false

theorem build_rest {L : List PairS} (hr : RisingP L) (hf : FineP L) (h : buildE L ≠ 0) : L = [] ∨ (L ≠ [] ∧ buildE L = 2) := by
  by_cases hn : L = []
  · exact .inl hn
  · refine .inr ⟨hn, ?_⟩
    rw [build_fine hn hr hf] at h ⊢
    split
    · rfl
    · rename_i h2
      rw [if_neg h2] at h
      exact absurd rfl h

set_option maxHeartbeats 4000000 in
set_option maxRecDepth 100000 in
theorem back7_walk {T : World → Nat → List PairS → Nat → Prop} (K : TableK T) (a0 : Option Addr) (c0 : Nat) (ps : List PairS) (key : ByteArray) (w : World)
    (h0 : ReadP w (.slice a0 ps.length c0) ps) (hN : ps.length ≤ 3518437208780) :
    Calls Try.prog 5 #[.slice a0 ps.length c0, .string key] w fun e w' => e = .returned (.bool true) ∧ Below w.heap.size w w' := by
  have hLd := fun w' (b : Below w.heap.size w w') => laid_any (h0.below b) (by omega)
  have hrs := putsP_rising ps ps.length
  have hfn := putsP_fine ps
  have hln := putsP_len ps ps.length
  rw [List.take_length] at hrs hln
  generalize putsP ps = L at *
  have HLD := Lib.hid hLd
  have HRS := Lib.hid hrs
  have HFN := Lib.hid hfn
  clear hLd h0 hrs hfn
  go_enter Try.func5, Try.ntmps5
  go_wp2_with fail
  refine (awake7_any K _).mono ?_
  rintro e w1 ⟨rfl, b1⟩
  have B1 := Lib.hid b1
  clear b1
  go_wp2_with fail
  refine (HLD.out w1 B1.out).mono ?_
  rintro e w2 ⟨v, rfl, o2, b2⟩
  have B2 := Lib.hid (B1.out.trans (b2.mono B1.out.size))
  obtain ⟨va, vc, rfl⟩ := row_slice o2
  have O2 := Lib.hid o2
  have hbd := K.build (ReadP.own o2) (own7_cap o2).1 (by omega)
  have hsz := buildS_size L
  clear b2 o2 HLD
  by_cases hE : buildE L = 0
  · have HTB := Lib.hid (build_tab hE)
    rw [hE] at hbd
    generalize buildS L = S at *
    go_wp2_with fail
    refine hbd.mono ?_
    rintro e w3 ⟨rfl, b3⟩
    have O3 := Lib.hid (ownsRow_below O2.out b3)
    have B3 := Lib.hid (B2.out.trans (b3.mono B2.out.size))
    clear b3 hbd O2
    go_wp2_with fail
    refine (K.opn S w3 hsz).mono ?_
    rintro e w4 ⟨h4, b4⟩
    have O4 := Lib.hid (ownsRow_below O3.out b4)
    have B4 := Lib.hid (B3.out.trans (b4.mono B3.out.size))
    clear b4 O3
    rcases h4 with ⟨l', p, rfl, ht, hT⟩ | ⟨rfl, hn⟩
    · have hl := tab_one ht HTB.out
      subst hl
      have T4 := Lib.hid hT
      clear ht hT
      go_wp2_with fail
      refine (K.len T4.out (Nat.le_refl _)).mono ?_
      rintro e w5 ⟨rfl, b5⟩
      have T5 := Lib.hid (K.below T4.out b5)
      have O5 := Lib.hid (ownsRow_below O4.out b5)
      have B5 := Lib.hid (B4.out.trans (b5.mono B4.out.size))
      have h5 := b5.size
      clear b5 T4 O4
      go_wp2_with fail
      refine (K.seq ⟨#[]⟩ T5.out h5 (by decide)).mono ?_
      rintro e w6 ⟨g, lb, G, rfl, eg, hgi, hG, b6, -⟩
      have hcol := collect_any g lb eg G (fromP ⟨#[]⟩ l') w6 hG (by rw [from_nil]; omega) (hgi _ (Below.refl _ _))
      rw [from_nil] at hcol
      have T6 := Lib.hid (K.below T5.out (b6.mono h5))
      have O6 := Lib.hid (ownsRow_below O5.out b6)
      have B6 := Lib.hid (B5.out.trans (b6.mono B5.out.size))
      have h6 := Nat.le_trans h5 b6.size
      clear b6 hgi T5 O5 h5
      go_wp2_with fail
      refine hcol.mono ?_
      rintro e w7 ⟨v7, rfl, o7, b7⟩
      have T7 := Lib.hid (K.below T6.out (b7.mono h6))
      have O7 := Lib.hid (ownsRow_below O6.out b7)
      have B7 := Lib.hid (B6.out.trans (b7.mono B6.out.size))
      have h7 := Nat.le_trans h6 b7.size
      have hsm := rsame_any (ReadP.own o7) (ReadP.own O7.out)
      rw [sameP_refl] at hsm
      clear b7 hcol o7 T6 O6 h6
      go_wp2_with fail
      refine hsm.mono ?_
      rintro e w8 ⟨rfl, n8, rfl⟩
      have T8 := Lib.hid (K.below T7.out ((drawnB w7 n8).mono h7))
      have O8 := Lib.hid (ownsRow_below O7.out (drawnB w7 n8))
      have B8 := Lib.hid (B7.out.trans ((drawnB w7 n8).mono B7.out.size))
      have h8 := Nat.le_trans h7 (drawnB w7 n8).size
      generalize w7.drewN n8 = w8 at *
      clear hsm T7 O7 h7
      go_wp2
      go_loopw [61] (fun iv wr => ∃ i : Nat, i ≤ l'.length ∧ iv = .int .i64 (i : Int) ∧ Hid (Below w8.heap.size w8 wr)) (fun iv _ => l'.length - (intOf iv).toNat)
      case atStart => exact ⟨0, Nat.zero_le _, rfl, Below.refl _ _⟩
      case round =>
        obtain ⟨i, hi, rfl, HB⟩ := hrel
        by_cases hlt : i < l'.length
        · obtain ⟨b, off, rfl, q0, q1, q2⟩ := (ReadP.own (ownsRow_below O8.out HB.out)).at hlt
          have hga := getP_at HRS.out hlt
          have hmes : l'.length - (intOf (.int .i64 ((i : Int) + 1))).toNat < l'.length - (intOf (.int .i64 (i : Int))).toNat := by simp [intOf]; omega
          generalize l'[i] = X at *
          obtain ⟨xk, xv, xg⟩ := X
          simp only at q0 q1 q2 hga
          have hbl := (Below.refl wr.heap.size wr).alloc (Nat.le_refl _) (.cells #[.string xk, .string xv, .bool xg] 39)
          have HN1 := Lib.hid (heap_alloc_new wr (.cells #[.string xk, .string xv, .bool xg] 39))
          obtain ⟨x0, x1, x2⟩ := box_cells HN1.out
          have HB1 := Lib.hid (HB.out.trans (hbl.mono HB.out.size))
          have TR := Lib.hid (K.below T8.out (HB1.out.mono h8))
          have hR := Nat.le_trans h8 HB1.out.size
          have hgt := K.get xk TR.out hR
          rw [hga] at hgt
          have HGT := Lib.hid hgt
          clear hbl hgt
          go_wp2_with fail
          generalize wr.alloc (.cells #[.string xk, .string xv, .bool xg] 39) = wa at *
          generalize wr.heap.size = xb at *
          refine HGT.out.mono ?_
          rintro e wc ⟨rfl, bc⟩
          have HN2 := Lib.hid (box_later HN1.out bc)
          have hbl := (Below.refl wc.heap.size wc).alloc (Nat.le_refl _) (.cells #[.string xk, .string xv, .bool xg] 39)
          have HN3 := Lib.hid (box_later HN2.out hbl)
          have HN4 := Lib.hid (heap_alloc_new wc (.cells #[.string xk, .string xv, .bool xg] 39))
          have HB2 := Lib.hid (HB1.out.trans ((bc.trans (hbl.mono bc.size)).mono HB1.out.size))
          clear hbl bc HGT x0 x1 x2
          obtain ⟨x0, x1, x2⟩ := box_cells HN3.out
          obtain ⟨y0, y1, y2⟩ := box_cells HN4.out
          simp only [show ((some (⟨xk, xv, xg⟩ : PairS)).getD zeroP).val' = .agg #[.string xk, .string xv, .bool xg] from rfl, show (some (⟨xk, xv, xg⟩ : PairS)).isSome = true from rfl]
          go_wp2
          go_roundw
          case rel => exact ⟨i + 1, by omega, by go_num, HB2.out⟩
          case measure => exact hmes
        · obtain rfl : i = l'.length := by omega
          have TR := Lib.hid (K.below T8.out (HB.out.mono h8))
          have OR := Lib.hid (ownsRow_below O8.out HB.out)
          have BR := Lib.hid (B8.out.trans (HB.out.mono B8.out.size))
          have hR := Nat.le_trans h8 HB.out.size
          have hbl := (Below.refl wr.heap.size wr).alloc (Nat.le_refl _) (.cells #[.slice va l'.length vc] 37)
          have hnw := heap_alloc_new wr (.cells #[.slice va l'.length vc] 37)
          have hRT : RTabAt (wr.alloc (.cells #[.slice va l'.length vc] 37)) wr.heap.size l' (fun _ => True) := ⟨_, hnw, ownsRow_below OR.out hbl, trivial, fun _ _ => trivial⟩
          have HRT := Lib.hid hRT
          have T9 := Lib.hid (K.below TR.out (hbl.mono hR))
          have B9 := Lib.hid (BR.out.trans (hbl.mono BR.out.size))
          have h9 := Nat.le_trans hR hbl.size
          clear hbl hnw hRT TR OR BR hR HB T8 O8 h8
          go_wp2_with fail
          generalize wr.alloc (.cells #[.slice va l'.length vc] 37) = w9 at *
          obtain ⟨v9, hv9⟩ := HRT.out
          have hrg := rget5_any hv9 key
          obtain ⟨Y, hY⟩ : ∃ Y, (getP key l').getD zeroP = Y := ⟨_, rfl⟩
          have hz : getP key l' = none → Y = zeroP := fun h => by rw [← hY, h]; rfl
          rw [hY] at hrg
          have hgt := fun w p B h1 h2 => K.get (w := w) (p := p) (B := B) (l := l') key h1 h2
          rw [hY] at hgt
          obtain ⟨yk, yv, yg⟩ := Y
          unfold PairS.val' at hrg hgt
          have HGT := Lib.hid hgt
          refine hrg.mono ?_
          rintro e wA ⟨rfl, bA⟩
          have hbl := (Below.refl wA.heap.size wA).alloc (Nat.le_refl _) (.cells #[.string yk, .string yv, .bool yg] 39)
          have bA2 := bA.trans (hbl.mono bA.size)
          have TA := Lib.hid (K.below T9.out (bA2.mono h9))
          have BA := Lib.hid (B9.out.trans (bA2.mono B9.out.size))
          have hA := Nat.le_trans h9 bA2.size
          clear hbl bA bA2 hrg hv9 hgt T9 h9 HRT
          go_wp2_with fail
          generalize wA.alloc (.cells #[.string yk, .string yv, .bool yg] 39) = wB at *
          refine (HGT.out _ _ _ TA.out hA).mono ?_
          rintro e wC ⟨rfl, bC⟩
          have hbl := (Below.refl wC.heap.size wC).alloc (Nat.le_refl _) (.cells #[.string yk, .string yv, .bool yg] 39)
          have BC := Lib.hid (BA.out.trans ((bC.trans (hbl.mono bC.size)).mono BA.out.size))
          obtain ⟨y0, y1, y2⟩ := box_cells (heap_alloc_new wC (.cells #[.string yk, .string yv, .bool yg] 39))
          clear hbl bC HGT
          cases hg : getP key l' with
          | some y =>
            simp only [show (some y).isSome = true from rfl]
            go_wp2
            go_ret
            exact ⟨rfl, BC.out⟩
          | none =>
            have := hz hg
            injection this with z1 z2 z3
            subst z1
            subst z2
            subst z3
            simp only [show (none : Option PairS).isSome = false from rfl]
            go_wp2
            go_ret
            exact ⟨rfl, BC.out⟩
    · exact absurd HTB.out (hn _)
  · rcases build_rest HRS.out HFN.out hE with hL | ⟨hL, hE2⟩
    · have hL0 : L.length = 0 := by rw [hL]; rfl
      have hE3 : ((buildE L : Int) != 0) = true := by simp; omega
      have HL0 := Lib.hid hL0
      generalize buildE L = E at *
      generalize buildS L = S at *
      have hg0 : ((L.length : Int) == 0) = true := by rw [hL0]; rfl
      clear hL0 hL
      go_wp2_with fail
      refine hbd.mono ?_
      rintro e w3 ⟨rfl, b3⟩
      have B3 := Lib.hid (B2.out.trans (b3.mono B2.out.size))
      clear b3
      go_wp2
      go_ret
      exact ⟨rfl, B3.out⟩
    · have hL1 : ((L.length : Int) == 0) = false := by
        have := List.length_pos_iff.2 hL
        simp; omega
      rw [hE2] at hbd
      generalize buildS L = S at *
      clear hL hE2 hE
      go_wp2_with fail
      refine hbd.mono ?_
      rintro e w3 ⟨rfl, b3⟩
      have B3 := Lib.hid (B2.out.trans (b3.mono B2.out.size))
      clear b3
      go_wp2
      go_ret
      exact ⟨rfl, B3.out⟩
end Go.Proofs.Ytlakemcbfeogkaa

/- Layer 5's laws, whatever the table: what a table must be (its calls' contracts); the law's awake. -/
import Derived.Test.YtmmamgnbonpkiaaDoorR05c
import Derived.Test.YtmmamgnbonpkiaaDoorW05g
namespace Go.Proofs.YtmmamgnbonpkiaaDoor
open Go.RowKit Go.Maps Go.WideMaps
set_option linter.unusedVariables false

/-- What a Put makes of the pairs, whatever the pair. -/
def putIf (x : PairS) (l : List PairS) : List PairS := if wrongP x = 0 then putP x l else l

/-- T w p l F: the table at p holds the pairs l, all it has lies in F. What its calls do. -/
structure MemK (T : World → Nat → List PairS → (Nat → Prop) → Prop) : Prop where
  kept : ∀ {w w' p l F G}, T w p l F → Turn G w w' → (∀ k, F k → ¬ G k) → T w' p l F
  mono : ∀ {w p l F G}, T w p l F → (∀ k, F k → G k) → T w p l G
  new : ∀ w, Calls Tryd.prog 8 #[] w fun e w' => ∃ p, e = .returned (.pointer (some ⟨p, 0, none⟩)) ∧ T w' p [] (fun k => w.heap.size ≤ k ∧ k < w'.heap.size) ∧ Below w.heap.size w w'
  put : ∀ {w p l F} x, Tab64 w → T w p l F → l.length < 3518437208880 → sizeP l ≤ 36028797018963968 → Calls Tryd.prog 9 #[.pointer (some ⟨p, 0, none⟩), x.val'] w fun e w' => e = .returned (.int .i64 (wrongP x : Nat)) ∧ T w' p (putIf x l) (Grown F w w') ∧ Turn F w w'
  len : ∀ {w p l F}, T w p l F → Calls Tryd.prog 11 #[.pointer (some ⟨p, 0, none⟩)] w fun e w' => e = .returned (.tuple #[.int .i64 (l.length : Nat), .int .i64 (sizeP l : Nat)]) ∧ Below w.heap.size w w'
  get : ∀ {w p l F} k, T w p l F → Calls Tryd.prog 13 #[.pointer (some ⟨p, 0, none⟩), .string k] w fun e w' => e = .returned (.tuple #[((getP k l).getD zeroP).val', .bool (getP k l).isSome]) ∧ Below w.heap.size w w'
  seq : ∀ {w p l F} k, T w p l F → k.size ≤ 281474976710656 → Calls Tryd.prog 17 #[.pointer (some ⟨p, 0, none⟩), .string k] w fun e w' => ∃ g lb G, e = .returned (.func (.func g) #[] lb) ∧ (∀ args w, (callFunc g args).run Tryd.prog w = .ok (.enter g args) w) ∧ (∀ w'', Below w'.heap.size w' w'' → GivesP Fence.wide 4 g lb G (fromP k l) w'') ∧ (∀ j, G j → j < w'.heap.size) ∧ Below w.heap.size w w' ∧ (∀ j, G j → F j ∨ w.heap.size ≤ j) ∧ ∀ dec : PairS → PairS, (∀ x ∈ fromP k l, dec x = x) → ∀ w'', Below w'.heap.size w' w'' → GivesD Fence.wide 4 g lb G dec (fromP k l) w''

theorem memK : MemK TabAt where
  kept := fun h t hd => h.kept t hd
  mono := fun h hd => h.mono hd
  new := new_any
  len := len_any
  get := fun k h => get_any h k
  seq := fun {w p l F} k h hk => (seq_any h k hk).mono fun e w' ⟨g, lb, G, h1, h2, h3, h4, h5, h6, h7⟩ => ⟨g, lb, G, h1, h2, fun w'' hw => h3 4 (by omega) w'' hw, h4, h5, h6, fun dec hd w'' hw => h7 dec hd 4 (by omega) w'' hw⟩
  put := fun {w p l F} x hQ h h1 h2 => by
    unfold putIf
    by_cases hx : wrongP x = 0
    · rw [if_pos hx, hx]
      exact put_ok hQ x hx h h1 h2
    · rw [if_neg hx]
      refine (put_bad x hx).mono fun e w' ⟨e1, b⟩ => ⟨e1, (h.kept (Turn.of_below (fun _ => False) b) (fun _ _ h => h)).mono (fun i hi => .inl hi), (Turn.of_below (fun _ => False) b).mono (fun i hi => hi.elim)⟩

set_option maxHeartbeats 1000000 in
set_option maxRecDepth 100000 in
theorem rput_any {w : World} {p : Nat} {l : List PairS} {F : Nat → Prop} (h : RTabAt w p l F) (x : PairS) (hz : l.length < 3518437208880) :
    Calls Tryd.prog 10 #[.pointer (some ⟨p, 0, none⟩), x.val'] w fun e w' => e = .returned (.int .i64 (wrongP x : Nat)) ∧ RTabAt w' p (putIf x l) (Grown F w w') ∧ Turn F w w' := by
  obtain ⟨v, h⟩ := h
  unfold putIf
  by_cases hx : wrongP x = 0
  · rw [if_pos hx, hx]
    exact rput_ok h x hx hz
  · rw [if_neg hx]
    obtain ⟨k, vl, gn⟩ := x
    have hwr := rwrong_any ⟨k, vl, gn⟩ (w.alloc (.cells #[.string k, .string vl, .bool gn] 31))
    generalize wrongP ⟨k, vl, gn⟩ = n at *
    have hne : ((n : Int) != 0) = true := by simpa using hx
    have hne2 : ((n : Int) == 0) = false := by simpa using hx
    have H := Lib.hid h
    have HW := Lib.hid hwr
    clear h hwr
    show Calls Tryd.prog 10 #[.pointer (some ⟨p, 0, none⟩), .agg #[.string k, .string vl, .bool gn]] w _
    go_enter Tryd.func10, Tryd.ntmps10
    go_wp2_with fail
    refine HW.out.mono ?_
    rintro r w1 ⟨rfl, b1⟩
    have B1 := Lib.hid (((Below.refl _ w).alloc (Nat.le_refl _) _).trans (b1.mono (by simp)))
    clear b1
    go_wp2
    go_ret
    exact ⟨rfl, RTabAt.mono ⟨v, H.out.below B1.out⟩ (fun k hk => .inl hk), (turnN B1.out).mono (fun i hi => hi.elim)⟩

theorem bef_ab : befB ⟨#[97]⟩ ⟨#[98]⟩ = true := (befB_lt _ _).2 (by decide)
theorem bef_ba : befB ⟨#[98]⟩ ⟨#[97]⟩ = false := befB_asymm bef_ab
theorem bef_nil (k : ByteArray) : befB k ⟨#[]⟩ = false := by
  cases h : befB k ⟨#[]⟩ with
  | false => rfl
  | true =>
    have := (befB_lt _ _).1 h
    exact absurd this (by simp)
theorem from_nil (l : List PairS) : fromP ⟨#[]⟩ l = l := by
  have e : placeP ⟨#[]⟩ l = 0 := by
    cases l with
    | nil => rfl
    | cons y r => rw [placeP_cons, bef_nil]; rfl
  unfold fromP
  rw [e]; rfl
def pB : PairS := ⟨⟨#[98]⟩, ⟨#[49]⟩, false⟩
def pA : PairS := ⟨⟨#[97]⟩, ⟨#[50]⟩, false⟩
theorem put_B : putP pB [] = [pB] := by simp [putP, placeP]
theorem put_A : putP pA [pB] = [pA, pB] := by
  have e : placeP pA.key [pB] = 0 := by rw [placeP_cons, show befB pB.key pA.key = false from bef_ba]; rfl
  have e2 : thereP pA.key [pB] = false := by rw [thereP_of (l := [pB]) (i := 0) (by simp) e]; decide
  simp [putP, e, e2]

theorem equalIn_func_nil (d : Nat) {t : TypeId} {ts rs : Array TypeId} {va : Bool} (ht : Tryd.prog.underlying t = some (.func ts rs va)) (g : Nat) (lb : Array Value) (w : World) : (Op.equalIn (d + 1) t (.func (.func g) #[] lb) .nilFunc).run Tryd.prog w = .ok false w := by
  simp [Op.equalIn, run_underlying ht]
theorem func_nil {t : TypeId} {ts rs : Array TypeId} {va : Bool} (ht : Tryd.prog.underlying t = some (.func ts rs va)) (g : Nat) (lb : Array Value) (w : World) : (binOp .eql t (.func (.func g) #[] lb) .nilFunc).run Tryd.prog w = .ok (.bool false) w := by
  have h2 : (Op.equal t (.func (.func g) #[] lb) .nilFunc).run Tryd.prog w = .ok false w := equalIn_func_nil 9999 ht g lb w
  simp only [binOp]
  simp [h2]

set_option maxHeartbeats 2000000 in
set_option maxRecDepth 100000 in
theorem awake5_any {T : World → Nat → List PairS → (Nat → Prop) → Prop} (K : MemK T) (w : World) (hQ : Tab64 w) :
    Calls Tryd.prog 7 #[] w fun e w' => e = .returned (.bool true) ∧ Below w.heap.size w w' := by
  go_enter Tryd.func7, Tryd.ntmps7
  go_wp2_with fail
  refine (K.new w).mono ?_
  rintro r w1 ⟨p, rfl, h1, b1⟩
  have B1 := Lib.hid b1
  clear b1
  have c2 := K.put pB (hQ.below B1.out) h1 (by simp) (by simp [sizeP])
  rw [show wrongP pB = 0 from rfl, show putIf pB [] = putP pB [] from rfl, put_B] at c2
  go_wp2_with fail
  refine c2.mono ?_
  rintro r w2 ⟨rfl, h2, t2⟩
  have B2 := Lib.hid (B1.out.trans (t2.below (fun i hi => hi.1) B1.out.size))
  clear t2
  have c3 := K.put pA (hQ.below B2.out) h2 (by simp) (by decide)
  rw [show wrongP pA = 0 from rfl, show putIf pA [pB] = putP pA [pB] from rfl, put_A] at c3
  go_wp2_with fail
  refine c3.mono ?_
  rintro r w3 ⟨rfl, h3, t3⟩
  have B3 := Lib.hid (B2.out.trans (t3.below (fun i hi => by rcases hi with hi | hi; exact hi.1; exact Nat.le_trans B1.out.size hi.1) B2.out.size))
  have H3 := Lib.hid h3
  clear t3 c2 c3 h1 h2 h3
  go_wp2_with fail
  refine (K.seq ⟨#[]⟩ H3.out (by decide)).mono ?_
  rintro r w4 ⟨g, lb, G, rfl, eg, hgi, hG, b4, -⟩
  have hgi := hgi w4 (Below.refl _ _)
  rw [from_nil] at hgi
  have H4 := Lib.hid (K.kept H3.out (Turn.of_below (fun _ => False) b4) (fun _ _ h => h))
  have B4 := Lib.hid (B3.out.trans (b4.mono B3.out.size))
  clear b4
  have hnf := fun w => func_nil Tryd.underlying42 g lb w
  have hcol := collect_any g lb eg G [pA, pB] w4 hG (by decide) hgi
  go_wp2_with fail
  refine hcol.mono ?_
  rintro r w5 ⟨v5, rfl, o5, b5⟩
  have B5 := Lib.hid (B4.out.trans (b5.mono B4.out.size))
  have H5 := Lib.hid (K.kept H4.out (Turn.of_below (fun _ => False) b5) (fun _ _ h => h))
  have r5 := ReadP.own o5
  obtain ⟨a5, c5, rfl⟩ := r5.slice
  obtain ⟨bb, oo, rfl, q0, q1, q2⟩ := r5.at (i := 0) (by decide)
  have q0' : w5.cell? ⟨bb, oo, none⟩ = some (.string ⟨#[97]⟩) := q0
  have c6 := K.put zeroP (hQ.below B5.out) H5.out (by decide) (by decide)
  rw [show wrongP zeroP = 1 from rfl, show putIf zeroP [pA, pB] = [pA, pB] from rfl] at c6
  have H6 := Lib.hid c6
  clear b5 o5 r5 q0 q1 q2 hcol hnf hgi c6
  go_wp2_with fail
  refine H6.out.mono ?_
  rintro r w7 ⟨rfl, h7, t7⟩
  have B7 := Lib.hid (B5.out.trans (t7.below (fun i hi => by
    rcases hi with hi | hi
    · rcases hi with hi | hi
      · exact hi.1
      · exact Nat.le_trans B1.out.size hi.1
    · exact Nat.le_trans B2.out.size hi.1) B5.out.size))
  clear t7 h7 q0'
  go_wp2
  go_ret
  exact ⟨rfl, B7.out⟩
end Go.Proofs.YtmmamgnbonpkiaaDoor

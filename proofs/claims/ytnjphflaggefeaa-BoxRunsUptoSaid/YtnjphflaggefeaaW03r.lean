/- Layer 3: contracts of the reference's Append, Delete. -/
import Derived.Test.YtnjphflaggefeaaW03q
import Derived.Test.YtnjphflaggefeaaW00b
namespace Go.Proofs.Ytnjphflaggefeaa
open Go.RowKit Go.Maps Go.WideMaps
set_option linter.unusedVariables false

theorem infoFile : (Try.prog.info? 68).map (fun i => (i.zero, i.size, i.bytes)) = some (some (.agg #[.string ⟨#[]⟩, .string ⟨#[]⟩, .string ⟨#[]⟩]), 3, 48) := by kernel_rfl
theorem slFile : Try.prog.underlying 37 = some (.slice (Try.prog.elem 37)) := by kernel_rfl
theorem szFile (w : World) : (sizeOf (Try.prog.elem 37)).run Try.prog w = .ok 3 w := by kernel_rfl

/-- The reference's files anew, in a row of their own. -/
theorem RefIn.reRow {w w1 : World} {p : Nat} {v : Value} {S : Bx} {F : Nat → Prop} (h : RefIn w p v S F) {v' : Value} {l : List (Key × FileS)} (t : Turn NoF w w1) (ho : w1.ownsRow 0 68 3 v' l.length (rcells l)) (hn : ∀ k, v'.ownBlock = some k → w.heap.size ≤ k) (hok : FOK l) :
    RefIn (w1.setCell ⟨p, 0, none⟩ v') p v' ⟨l, S.fuel, S.down⟩ (Grew F w (w1.setCell ⟨p, 0, none⟩ v')) ∧ Turn F w (w1.setCell ⟨p, 0, none⟩ v') := by
  have hh1 : w1.heap[p]? = some (.cells #[v, .int .i64 (max S.fuel (-1)), .bool S.down] 39 (0, 0)) := t.keeps h.head (fun h => h)
  have t2 : Turn (fun k => k = p) w1 (w1.setCell ⟨p, 0, none⟩ v') := (Turn.refl (fun k => k = p) w1).setCell (p := ⟨p, 0, none⟩) (.inl rfl) v'
  have hp := h.lt
  refine ⟨⟨block_set hh1 0 v', t2.row ho (fun k hk e => by have := hn k hk; omega), .inl h.fp, fun k hk => .inr ⟨hn k hk, by have := (ho.lt k hk).2; simpa [World.setCell] using this⟩, hok, h.hi⟩, ?_⟩
  exact (t.mono (fun i hi => hi.elim)).trans (t2.toF h.fp) (fun i hi => .inl hi)

theorem FOK.upd {l : List (Key × FileS)} (h : FOK l) (n : Key) {f : FileS} (hd : f.dur ≤ f.bytes.length) : FOK (updK n f l) :=
  ⟨rising_keys h.rising (updK_keys _ _ _), fun x hx => by
    rcases mem_upd hx with rfl | hx
    · exact hd
    · exact h.dur x hx⟩
theorem rising_sub {α : Type} {l l' : List (Key × α)} (h : Rising l) (hs : l'.Sublist l) : Rising l' := List.Pairwise.sublist hs h
theorem FOK.drop {l : List (Key × FileS)} (h : FOK l) (n : Key) : FOK (dropK n l) := ⟨rising_sub h.rising List.filter_sublist, fun x hx => h.dur x (dropK_sub hx).1⟩

theorem rising_ins {l : List (Key × FileS)} (h : Rising l) {n : Key} (hf : findK n l = none) (f : FileS) : Rising (insK (n, f) l) := by
  induction l with
  | nil => exact List.pairwise_singleton _ _
  | cons y r ih =>
    obtain ⟨h1, h2⟩ := List.pairwise_cons.1 h
    rw [findK_cons] at hf
    by_cases he : y.1 = n
    · rw [if_pos he] at hf; cases hf
    · rw [if_neg he] at hf
      unfold insK
      by_cases hb : bytesBefore n y.1 = true
      · rw [if_pos hb]
        refine List.pairwise_cons.2 ⟨fun z hz => ?_, h⟩
        rcases List.mem_cons.1 hz with rfl | hz
        · exact hb
        · exact (before_lt _ _).2 (List.lt_trans ((before_lt _ _).1 hb) ((before_lt _ _).1 (h1 z hz)))
      · rw [if_neg hb]
        refine List.pairwise_cons.2 ⟨fun z hz => ?_, ih h2 hf⟩
        rcases List.mem_cons.1 ((insK_perm _ _).mem_iff.1 hz) with rfl | hz
        · exact before_total (Ne.symm he) (by simpa using hb)
        · exact h1 z hz
theorem FOK.ins {l : List (Key × FileS)} (h : FOK l) {n : Key} (hf : findK n l = none) {f : FileS} (hd : f.dur ≤ f.bytes.length) : FOK (insK (n, f) l) :=
  ⟨rising_ins h.rising hf f, fun x hx => by
    rcases List.mem_cons.1 ((insK_perm _ _).mem_iff.1 hx) with rfl | hx
    · exact hd
    · exact h.dur x hx⟩

theorem place_ins {n : Key} {l : List (Key × FileS)} (h : findK n l = none) (f : FileS) : placeK n (insK (n, f) l) = placeK n l := by
  induction l with
  | nil => simp [insK, placeK, bytes_irrefl]
  | cons y r ih =>
    rw [findK_cons] at h
    by_cases he : y.1 = n
    · rw [if_pos he] at h; cases h
    · rw [if_neg he] at h
      unfold insK
      by_cases hb : bytesBefore n y.1 = true
      · rw [if_pos hb, placeK, if_neg (by rw [bytes_irrefl]; decide), placeK, if_neg (by rw [before_asymm hb]; decide)]
      · rw [if_neg hb]
        have hb2 := before_total (Ne.symm he) (by simpa using hb)
        rw [placeK, if_pos hb2, ih h, placeK, if_pos hb2]

end Go.Proofs.Ytnjphflaggefeaa

/- Layer 4: contract of read. -/
import Derived.Test.YtlgpkbcefaldoaaDoorW04b
import Derived.Test.YtlgpkbcefaldoaaDoorW02e
import Derived.Laws.AppendOwnNone
namespace Go.Proofs.YtlgpkbcefaldoaaDoor
open Go.RowKit Go.Maps Go.WideMaps Go.Shelf
set_option linter.unusedVariables false

/-- One row of the call's own is appended to another one. -/
theorem wpList_append_rows {P : Program} {w : World} {ops : Array Oper} {rest : List Oper} {o : Oper} {a : Act} {Q : Exit → Act → World → Prop} (hgd : o.guard = none) (s x : Operand) (t : TypeId)
    (ho : o.op = .call { callee := .builtin .append, args := #[s, x], argTypes := #[t, t] })
    (base : Nat) (e : TypeId) (i : TypeInfo) (z : Value) (bytes : Nat) (ht : P.underlying t = some (.slice e)) (hi : P.info? e = some i) (hz : i.zero = some z)
    (hsize : i.size = 1) (hby : i.bytes = bytes) (hzs : z.cells.size = 1)
    (v : Value) (n : Nat) (xs : List Value) (hs : a.eval s = v) (hown : w.ownsRow base e 1 v n xs)
    (u : Value) (m : Nat) (ys : List Value) (b2 : Nat) (hx : a.eval x = u) (hsrc : w.ownsRow b2 e 1 u m ys) (h1 : ∀ u ∈ ys, u.oneCell' = true)
    (h63 : n + m ≤ maxLen) (hbytes : (n + m) * bytes ≤ 140737488355328) (hbase : base ≤ w.heap.size)
    (h : ∀ v' w', w'.ownsRow base e 1 v' (n + m) (xs ++ ys) → w.grownBy w' v.ownBlock → wpList P ops Q rest (a.put o.dst v') w') : wpList P ops Q (o :: rest) a w := by
  have hl := hsrc.1
  rcases hsrc.2 with ⟨hu, h0⟩ | ⟨g, cap, cur, hu, _⟩
  · subst h0
    have hy : ys = [] := List.eq_nil_of_length_eq_zero (by simpa using hl)
    subst hy
    refine wpList_append_own_none hgd s x t ho base e i 1 ht hi v n xs hs hown (by rw [hx, hu]) (h v w (by simpa using hown) (World.grownBy.refl w _))
  · exact wpList_append_own w hgd s x t ho base e i z 1 bytes ht hi hz hsize hby hzs (by decide) v n xs hs hown ⟨g, 0, none⟩ m cap ys (by rw [hx, hu]) hl (hsrc.cells (g := g) (by rw [hu]; rfl)) h1 h63 hbytes hbase
      (fun v' w' h2 h3 _ => h v' w' h2 h3)

def recN (nm : Key) (l : List (Key × FileS)) (n : Nat) : List (List UInt8) := match findK (segName nm n) l with | some f => (scanL f.bytes).1 | none => []
def readL (nm : Key) (l : List (Key × FileS)) (ns : List Nat) : List (List UInt8) := ns.flatMap (recN nm l)
theorem readL_take {nm : Key} {l : List (Key × FileS)} {ns : List Nat} {k : Nat} (h : k < ns.length) : readL nm l (ns.take (k + 1)) = readL nm l (ns.take k) ++ recN nm l ns[k] := by
  unfold readL
  rw [List.take_succ_eq_append_getElem h, List.flatMap_append]
  simp
theorem readL_mono (nm : Key) (l : List (Key × FileS)) (ns : List Nat) (k : Nat) : (readL nm l (ns.take k)).length ≤ (readL nm l ns).length := by
  have : readL nm l ns = readL nm l (ns.take k) ++ readL nm l (ns.drop k) := by unfold readL; rw [← List.flatMap_append, List.take_append_drop]
  rw [this, List.length_append]; omega
theorem one_txs (l : List (List UInt8)) : ∀ u ∈ l.map tx, u.oneCell' = true := by
  intro u hu
  obtain ⟨x, _, rfl⟩ := List.mem_map.1 hu
  rfl
theorem ints_getD {ns : List Nat} {k : Nat} (h : k < ns.length) : (ints ns).getD k undef = .int .i64 (ns[k] : Int) := by
  simp [List.getD, ints, h]

theorem segB_max (nm : ByteArray) (n : Nat) (h : nm.size ≤ 8) : (segB nm n).size ≤ maxLen := by rw [segB_size]; unfold maxLen; omega
theorem tx_of {x : ByteArray} {l : List UInt8} (h : x = ⟨l.toArray⟩) : tx l = .string x := by rw [h]; rfl
/-- How read ends. -/
def ReadEnd (w : World) (nm : Key) (l : List (Key × FileS)) (ns : List Nat) (e : Ending) (w' : World) : Prop :=
  ∃ v, e = .returned (.tuple #[v, .int .i64 0]) ∧ w'.ownsRow w.heap.size 9 1 v (readL nm l ns).length ((readL nm l ns).map tx) ∧ Below w.heap.size w w'

set_option maxHeartbeats 1000000 in
set_option maxRecDepth 100000 in
theorem read_any {w : World} {q p c : Nat} {nm : ByteArray} {a : Bool} {S : Bx} {F : Nat → Prop} (h : LogIn w q p nm c a S F) (hd : S.down = false) {b0 : Nat} {v : Value} {ns : List Nat} (hv : w.ownsRow b0 3 1 v ns.length (ints ns))
    (hns : ∀ n ∈ ns, n ≤ 99999999 ∧ ∃ f, findK (segName nm.data.toList n) S.files = some f ∧ f.bytes.length ≤ 16777216) (hl : (readL nm.data.toList S.files ns).length ≤ 8796093022208) (hn : ns.length ≤ 8796093022208) :
    Calls Tryd.prog 20 #[.pointer (some ⟨q, 0, none⟩), v] w fun e w' => ReadEnd w nm.data.toList S.files ns e w' := by
  obtain ⟨i0, hi, hz0, hz1, hz2⟩ := info_parts infoStr
  obtain ⟨ra, rc, rfl, hR⟩ := row1_own hv (by omega)
  have H := Lib.hid h
  have HR := Lib.hid hR
  have HNS := Lib.hid hns
  have HD := Lib.hid hd
  clear h hv hns hd hR
  go_enter Tryd.func20, Tryd.ntmps20
  go_wp2
  go_loopw [6, 15] (fun nv iv wr => ∃ (k : Nat), k ≤ ns.length ∧ iv = .int .i64 (k : Int) ∧ Hid (wr.ownsRow w.heap.size 9 1 nv (readL nm.data.toList S.files (ns.take k)).length ((readL nm.data.toList S.files (ns.take k)).map tx)) ∧ Hid (Below w.heap.size w wr)) (fun _ iv _ => ns.length - (intOf iv).toNat)
  case atStart => exact ⟨0, by omega, rfl, World.ownsRow_nil _ _ _ _, Below.refl _ _⟩
  case round =>
    obtain ⟨k, hk, rfl, HV, HB⟩ := hrel
    by_cases hlt : k < ns.length
    · obtain ⟨b, off, rfl, hcell⟩ := HR.out.in HB.out hlt
      rw [ints_getD hlt] at hcell
      obtain ⟨hn8, f, hf, hfz⟩ := HNS.out _ (List.getElem_mem hlt)
      have HT := Lib.hid (readL_take (nm := nm.data.toList) (l := S.files) hlt)
      have hm1 := readL_mono nm.data.toList S.files ns (k + 1)
      have hrn : Hid (recN nm.data.toList S.files ns[k] = (scanL f.bytes).1) := by show _ = _; unfold recN; rw [hf]
      have hlen1 : (readL nm.data.toList S.files (ns.take k)).length + (scanL f.bytes).1.length ≤ 8796093022208 := by
        have h1 := HT.out
        rw [hrn.out] at h1
        have h2 := congrArg List.length h1
        rw [List.length_append] at h2
        omega
      clear hm1
      generalize ns[k] = n at *
      have hH := H.out.below HB.out
      have c0 := hH.head.c0
      have HH := Lib.hid hH
      have HF := Lib.hid hf
      have hqr := hH.head.lt
      obtain ⟨x, hx⟩ : ∃ x : ByteArray, x = ⟨f.bytes.toArray⟩ := ⟨_, rfl⟩
      have HX := Lib.hid hx
      have hxs : x.size ≤ 16777216 := by
        rw [hx]
        show f.bytes.toArray.size ≤ _
        rw [List.size_toArray]; exact hfz
      clear hH hf hx hfz
      go_wp2
      go_region_held3 (fun w' => w'.cell? ⟨q, 0, none⟩ = some (.pointer (some ⟨p, 0, none⟩))) (first | exact c0 | exact c0a)
        (first
        | (go_at_call 22; refine (file_any HH.out.drew.head HH.out.nm8 HH.out.drew.tab n hn8).mono ?_; rintro e w1 ⟨rfl, b1⟩; have c0a := (HH.out.drew.below b1).head.c0; have B1 := Lib.hid b1; have hrd := box_read (HH.out.drew.below b1).box (segB nm n) (segB_max nm n HH.out.nm8); rw [segB_data, Bx.read_some HD.out HF.out, tx_of HX.out] at hrd; have HRD := Lib.hid hrd; clear b1 hrd)
        | (go_at_call 17; refine HRD.out.mono ?_; rintro e w2 ⟨rfl, rfl⟩))
      all_goals
        go_wp2_with fail
        refine (scan_any x hxs _).mono ?_
        rintro e w3 ⟨fv, rfl, hfo, fb⟩
        have hxl : x.data.toList = f.bytes := by rw [HX.out]
        rw [hxl] at hfo
        have B3 := Lib.hid (below_next (below_next HB.out (Nat.le_refl _) (below_undrew B1.out)) (Nat.le_refl _) fb)
        have hown1 := ownsRow_below (ownsRow_below HV.out (below_undrew B1.out)) fb
        have hsz3 := B3.out.size
        clear fb hxl c0 c0a hcell
        obtain ⟨fa, fc, rfl⟩ := ownsRow_slice hfo
        go_wp2_with (first
          | (at_builtin; refine wpList_append_rows rfl (.tmp 38) (.tmp 39) 22 rfl w.heap.size 9 i0 (.string ⟨#[]⟩) 16 Tryd.underlying22 hi hz0 hz1 hz2 rfl _ _ _ rfl hown1 _ _ _ _ rfl hfo ?c1 ?c2 ?c3 ?c4 ?_))
        case c1 => exact one_txs _
        case c2 => unfold maxLen; omega
        case c3 => omega
        case c4 => omega
        intro v' w4 hown' hgrow
        have HV2 : Hid (w4.ownsRow w.heap.size 9 1 v' (readL nm.data.toList S.files (ns.take (k + 1))).length ((readL nm.data.toList S.files (ns.take (k + 1))).map tx)) := by
          show World.ownsRow _ _ _ _ _ _ _
          rw [HT.out, hrn.out, List.length_append, List.map_append]
          exact hown'
        have HB4 := Lib.hid (B3.out.grown hgrow hsz3 (fun k hk => (hown1.lt k hk).1))
        clear hown1 hown' hgrow hfo
        go_wp2
        go_roundw
        case rel => exact ⟨k + 1, by omega, by go_num, HV2, HB4⟩
        case measure => simp [intOf]; omega
    · obtain rfl : k = ns.length := by omega
      rw [List.take_length] at HV
      go_wp2
      go_ret2
      exact ⟨_, rfl, HV.out, HB.out⟩
end Go.Proofs.YtlgpkbcefaldoaaDoor

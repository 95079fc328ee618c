/- Parts of the proof. -/
import Derived.Test.YtnafjlhohbhcoaaGreatDoorQ03
import Derived.Test.YtnafjlhohbhcoaaGreatDoorRows
import Derived.Laws.IdiomStrings
import Derived.Outline
import Derived.WalkSmall
import Derived.Laws.AppendOwn
import Derived.SliceStrings
import Derived.ProofKit
import Derived.SizedLaws
namespace Go.Proofs.YtnafjlhohbhcoaaGreatDoor
set_option linter.unusedVariables false
section
open Go.RowKit
theorem infoU8 : (Tryz.prog.info? 5).map (fun i => (i.zero,i.size,i.bytes)) = some (some (.int .u8 0),1,1):=by kernel_rfl
theorem NS {w : World} {base : Nat} {v : Value} {l : List UInt8} (h : w.ownsRow base 5 1 v l.length (l.map bv)) :
 (convert 55 9 v).run Tryz.prog w = .ok (.string ⟨l.toArray⟩) w:=by
 rcases h.2 with ⟨rfl,h0⟩ | ⟨g,cap,cur,rfl,_,hg,hle,_,hcs,htake⟩
 · obtain rfl : l = []:=List.length_eq_zero_iff.1 h0
   exact run_convert_bytes_nil w 55 5 Tryz.underlying55 Tryz.underlying5 0 0 _ Tryz.underlying9
 · have:=run_convert_bytes_back (P:=Tryz.prog) w 55 9 5 ⟨g,0,none⟩ cap l Tryz.underlying55 Tryz.underlying5 Tryz.underlying9 (fun j hj => by
     rw [Addr.add_lit,cell_of_row w g _ cur _ _ hg]
     have : (cur.toList.take (l.length * 1))[j]? = (l.map bv)[j]?:=by rw [htake]
     rw [List.getElem?_take,if_pos (by omega)] at this
     simp [List.getElem?_eq_getElem hj] at this
     simpa [bv] using this)
   exact this
theorem Gg (w : World) (x : Value) (t : TypeId) : ∀ j u,[x][j]? = some u -> (w.alloc (.cells #[x] t)).cell? ((⟨w.heap.size,0,none⟩ : Addr).add j) = some u:=by
 intro j u h
 match j,h with
 | 0,h => simp at h; subst h; simp [Addr.add]
theorem VW {k : IntKind} {x : Int} : ∀ u ∈ [Value.int k x],u.oneCell' = true:=by intro u hu; simp at hu; subst hu; rfl
end
section
open Go.RowKit
structure RD (w : World) (b : Nat) (R : Option (List UInt8)) (s : ByteArray) : Prop where
 text : s.data.toList = R.getD []
 c0 : w.cell? ⟨b,0,none⟩ = some (.string s)
 c1 : w.cell? ⟨b,1,none⟩ = some (.bool R.isNone)
 f0 : w.frozen? ⟨b,0,none⟩ = false
 f1 : w.frozen? ⟨b,1,none⟩ = false
 size : s.size <= 140737488351232
def RDE (w : World) (b : Nat) (R : Option (List UInt8)) : Prop:=∃ s,RD w b R s
theorem RDE.lt {w : World} {b : Nat} {R : Option (List UInt8)} (h : RDE w b R) : b < w.heap.size:=by
 obtain ⟨s,h⟩:=h
 exact World.block_lt_of_cell? w ⟨b,0,none⟩ h.c0
theorem RDE.block {w w' : World} {b : Nat} {R : Option (List UInt8)} (h : RDE w b R) (hb : w'.heap[b]? = w.heap[b]?) : RDE w' b R:=by
 obtain ⟨s,h⟩:=h
 exact ⟨s,h.text,(World.cell?_of_block (w:=w) (a:=⟨b,0,none⟩) hb).trans h.c0,(World.cell?_of_block (w:=w) (a:=⟨b,1,none⟩) hb).trans h.c1,
  (World.frozen?_of_block (w:=w) (a:=⟨b,0,none⟩) hb).trans h.f0,(World.frozen?_of_block (w:=w) (a:=⟨b,1,none⟩) hb).trans h.f1,h.size⟩
theorem RDE.kept {w w' : World} {b : Nat} {R : Option (List UInt8)} {row : Option Nat} (h : RDE w b R) (hg : w.grownBy w' row) (hr : some b ≠ row) : RDE w' b R:=
 h.block (hg.block b h.lt hr)
theorem RDE.below {w w' : World} {b : Nat} {R : Option (List UInt8)} (h : RDE w b R) (hg : Below w.heap.size w w') : RDE w' b R:=h.block (hg.block b h.lt)
theorem FC (w : World) (a : Addr) (v : Value) : w.grownBy (w.setCell a v) (some a.block):=
 ⟨rfl,rfl,rfl,by simp [World.setCell],fun k _ hk => Below.heap_setCell _ _ _ _ (by intro e; exact hk (by rw [e]))⟩
theorem CJ {a b c : World} {row : Option Nat} (h : a.grownBy b row) (k : b.grownBy c row) : a.grownBy c row:=
 ⟨k.os.trans h.os,k.tape.trans h.tape,k.output.trans h.output,Nat.le_trans h.size k.size,fun i hi hr => (k.block i (Nat.lt_of_lt_of_le hi h.size) hr).trans (h.block i hi hr)⟩
theorem DR (a : World) (row : Option Nat) : a.grownBy a row:=⟨rfl,rfl,rfl,Nat.le_refl _,fun _ _ _ => rfl⟩
theorem GS {a b : World} {row : Option Nat} (h : a.grownBy b row) (n : Nat) : a.grownBy (b.drewN n) row:=
 CJ h ⟨rfl,rfl,rfl,Nat.le_refl _,fun _ _ _ => rfl⟩
theorem JI {a b : World} (row : Option Nat) (h : Below a.heap.size a b) : a.grownBy b row:=⟨h.os,h.tape,h.output,h.size,fun k hk _ => h.block k hk⟩
theorem Eh {a b : World} {B r : Nat} (h : a.grownBy b (some r)) (hB : B <= a.heap.size) (hr : B <= r) : Below B a b:=
 (Below.refl B a).grown h hB (fun k hk => by injection hk with hk; omega)
theorem Abe {w : World} {b : Nat} {R : Option (List UInt8)} {s : ByteArray} (h : RD w b R s) : RDE ((w.setCell ⟨b,0,none⟩ (.string ⟨#[]⟩)).setCell ⟨b,1,none⟩ (.bool true)) b none:=
 ⟨⟨#[]⟩,rfl,by rw [World.cell?_setCell_other _ _ _ _ (by intro e; injection e with _ e; cases e),World.cell?_setCell_same _ _ _ h.c0],
   by rw [World.cell?_setCell_same _ _ _ (by rw [World.cell?_setCell_other _ _ _ _ (by intro e; injection e with _ e; cases e)]; exact h.c1)]; rfl,
   by rw [World.frozen?_setCell,World.frozen?_setCell]; exact h.f0,by rw [World.frozen?_setCell,World.frozen?_setCell]; exact h.f1,by decide⟩
theorem YG {w : World} {b : Nat} {l l' : List UInt8} {s s' : ByteArray} (h : RD w b (some l) s) (hl : s'.data.toList = l') (hs : s'.size <= s.size) : RDE (w.setCell ⟨b,0,none⟩ (.string s')) b (some l'):=
 ⟨s',by rw [hl]; rfl,by rw [World.cell?_setCell_same _ _ _ h.c0],
   by rw [World.cell?_setCell_other _ _ _ _ (by intro e; injection e with _ e; cases e)]; exact h.c1,
   by rw [World.frozen?_setCell]; exact h.f0,by rw [World.frozen?_setCell]; exact h.f1,Nat.le_trans hs h.size⟩
theorem RD.drewN {w : World} {b : Nat} {R : Option (List UInt8)} {s : ByteArray} (h : RD w b R s) (n : Nat) : RD (w.drewN n) b R s:=
 ⟨h.text,h.c0,h.c1,h.f0,h.f1,h.size⟩
theorem TP (w : World) (b : Nat) : w.grownBy ((w.setCell ⟨b,0,none⟩ (.string ⟨#[]⟩)).setCell ⟨b,1,none⟩ (.bool true)) (some b):=
 CJ (FC w ⟨b,0,none⟩ _) (FC _ ⟨b,1,none⟩ _)
def Gn (most : Nat) : Option (List UInt8) -> Nat × Option (List UInt8)
 | none => (0,none)
 | some l => match Dt l with
   | some (n,k) => if n <= most then (n,some (l.drop k)) else (0,none)
   | none => (0,none)
def CI (most : Int) (R : Option (List UInt8)) : Nat × Option (List UInt8):=if most < 0 then (0,none) else Gn most.toNat R
def CW (n : Int) : Option (List UInt8) -> List UInt8 × Option (List UInt8)
 | none => ([],none)
 | some l => if n < 0 \/ (l.length : Int) < n then ([],none) else (l.take n.toNat,some (l.drop n.toNat))
def textS : Option (List UInt8) -> List UInt8 × Option (List UInt8)
 | none => ([],none)
 | some l => match Dt l with
   | some (n,k) => if n <= (l.drop k).length then ((l.drop k).take n,some ((l.drop k).drop n)) else ([],none)
   | none => ([],none)
def Fs (R : Option (List UInt8)) : Bool:=R == some []
theorem WE (s : ByteArray) (l : List UInt8) (h : s.data.toList = l) : Fs (some l) = s.toList.isEmpty:=by
 rw [Lib.toList_data,h]
 cases l <;> rfl
theorem Oz {most n k : Nat} {l : List UInt8} (h : Dt l = some (n,k)) (hn : n <= most) : Gn most (some l) = (n,some (l.drop k)):=by simp [Gn,h,hn]
theorem Vd {most n k : Nat} {l : List UInt8} (h : Dt l = some (n,k)) (hn : ¬ n <= most) : Gn most (some l) = (0,none):=by simp [Gn,h,hn]
theorem NA {most : Nat} {l : List UInt8} (h : Dt l = none) : Gn most (some l) = (0,none):=by simp [Gn,h]
theorem PJ {s t : ByteArray} {l : List UInt8} {k : Nat} (hs : s.data.toList = l) (ht : t.data.toList = l.drop k) : t.size <= s.size:=by
 have h1:=congrArg List.length hs
 have h2:=congrArg List.length ht
 simp only [Array.length_toList,List.length_drop] at h1 h2
 show t.data.size <= s.data.size
 omega
theorem RDE.drewN {w : World} {b : Nat} {R : Option (List UInt8)} (h : RDE w b R) (n : Nat) : RDE (w.drewN n) b R:=by
 obtain ⟨s,h⟩:=h
 exact ⟨s,h.drewN n⟩
theorem Y4 (R : Option (List UInt8)) {most : Int} (h : most < 0) : CI most R = (0,none):=by simp [CI,h]
theorem Gk (R : Option (List UInt8)) (m : Nat) : CI (m : Int) R = Gn m R:=by
 unfold CI; rw [if_neg (by omega)]; simp
theorem MB (m : Nat) (R : Option (List UInt8)) : (Gn m R).1 <= m:=by
 unfold Gn
 split
 · simp
 · split
   · split <;> simp_all
   · simp
theorem Wi {n : Int} {l : List UInt8} (h : n < 0) : CW n (some l) = ([],none):=by simp [CW,h]
theorem JL {n : Int} {l : List UInt8} (h : (l.length : Int) < n) : CW n (some l) = ([],none):=by simp [CW,h]
theorem IW {n : Nat} {l : List UInt8} (h : n <= l.length) : CW (n : Int) (some l) = (l.take n,some (l.drop n)):=by
 simp only [CW]
 rw [if_neg (by omega)]; simp
theorem VL {s : ByteArray} {l : List UInt8} (hs : s.data.toList = l) : l.length = s.size:=by rw [<- hs]; simp
theorem Q5 {s : ByteArray} {l : List UInt8} (hs : s.data.toList = l) (k : Nat) : s.extract 0 k = ⟨(l.take k).toArray⟩:=by
 apply ByteArray.ext
 apply Array.toList_inj.1
 rw [Qn,hs]
theorem Pa (l : List UInt8) : textS (some l) = CW ((CI (l.length : Int) (some l)).1 : Int) (CI (l.length : Int) (some l)).2:=by
 rw [Gk]
 simp only [textS,Gn]
 cases hg : Dt l with
 | none => rfl
 | some p =>
   obtain ⟨n,k⟩:=p
   have hp:=Nr hg
   simp only
   by_cases h : n <= (l.drop k).length
   · have h2 : n <= l.length:=by rw [List.length_drop] at h; omega
     rw [if_pos h,if_pos h2,IW h]
   · rw [if_neg h]
     by_cases h2 : n <= l.length
     · rw [if_pos h2,JL (by omega)]
     · rw [if_neg h2]; rfl
theorem QS {n k : Nat} {l : List UInt8} (h : Dt l = some (n,k)) : Gn 18446744073709551615 (some l) = (n,some (l.drop k)):=by
 have:=(Jf h).1.out
 exact Oz h (by omega)
theorem Lv (R : Option (List UInt8)) : textS R = match Gn 18446744073709551615 R with
 | (n,some r) => if r.length < n then ([],none) else CW (n : Int) (some r)
 | (_,none) => ([],none):=by
 cases R with
 | none => rfl
 | some l =>
   cases hg : Dt l with
   | none => rw [NA hg]; simp [textS,hg]
   | some p =>
     obtain ⟨n,k⟩:=p
     rw [QS hg]
     simp only [textS,hg]
     by_cases h : n <= (l.drop k).length
     · rw [if_pos h,if_neg (by omega),IW h]
     · rw [if_neg h,if_pos (by omega)]
def EH (w w' : World) (b : Nat) (R : Option (List UInt8)) : Prop:=RDE w' b R /\ w.grownBy w' (some b)
theorem EH.trans {a b c : World} {x : Nat} {R S : Option (List UInt8)} (h : EH a b x R) (k : EH b c x S) : EH a c x S:=⟨k.1,CJ h.2 k.2⟩
theorem EH.below {w w' : World} {b B : Nat} {R : Option (List UInt8)} (h : EH w w' b R) (hB : B <= w.heap.size) (hb : B <= b) : Below B w w':=Eh h.2 hB hb
end
section
open Go.RowKit
theorem Ah {w w' : World} {base : Nat} {e : TypeId} {size : Nat} {v : Value} {n : Nat} {xs : List Value} (h : w.ownsRow base e size v n xs) (hb : Below w.heap.size w w') : w'.ownsRow base e size v n xs:=
 h.kept (JI none hb) (by cases v.ownBlock <;> simp)
def tx (l : List UInt8) : Value:=.string ⟨l.toArray⟩
theorem MH (s : ByteArray) : tx s.data.toList = .string s:=by unfold tx; congr 1
structure DO (s : ByteArray) (done : List (List UInt8)) (t : ByteArray) : Prop where
 all : Bz s.data.toList = (done ++ (Bz t.data.toList).1,(Bz t.data.toList).2)
 len : 5 * done.length + t.size <= s.size
theorem DO.start (s : ByteArray) : DO s [] s:=⟨by simp,by simp⟩
theorem DO.next {s t a r : ByteArray} {done : List (List UInt8)} (h : DO s done t) (hn : BJ t.data.toList = (0,a.data.toList,r.data.toList)) :
 DO s (done ++ [a.data.toList]) r /\ r.size < t.size:=by
 have hl:=(Il (l:=t.data.toList) (by rw [hn])).1
 rw [hn] at hl
 simp only [Array.length_toList] at hl
 have e1 : r.data.size = r.size:=rfl
 have e2 : t.data.size = t.size:=rfl
 have:=h.len
 refine ⟨⟨?_,?_⟩,by omega⟩
 · rw [h.all,Rz hn]; simp
 · rw [List.length_append,List.length_singleton]; omega
theorem DO.stop {s t : ByteArray} {done : List (List UInt8)} {k : Nat} (h : DO s done t) (hk : k = 20 \/ k = 21) (hn : BJ t.data.toList = (k,[],[])) :
 (Bz s.data.toList).1 = done /\ (Bz s.data.toList).2.length = t.size:=by
 have:=Pu (l:=t.data.toList) (by rw [hn]; simp; omega)
 rw [h.all,this]
 simp
end
section
open Go.RowKit
structure GY (W : World) (a : Option Addr) (len : Nat) (V : Nat -> Value) : Prop where
 max : len <= 9223372036854775807
 row : len = 0 \/ ∃ b off,a = some ⟨b,off,none⟩ /\ b < W.heap.size /\ ∀ i,i < len -> W.cell? ⟨b,off + i,none⟩ = some (V i)
theorem GY.at {W : World} {a : Option Addr} {len : Nat} {V : Nat -> Value} (h : GY W a len V) {k : Nat} (hk : k < len) :
 ∃ b off,a = some ⟨b,off,none⟩ /\ b < W.heap.size /\ W.cell? ⟨b,off + k,none⟩ = some (V k):=by
 rcases h.row with h0 | ⟨b,off,ha,hb,hc⟩
 · omega
 · exact ⟨b,off,ha,hb,hc k hk⟩
theorem GY.in {W w : World} {a : Option Addr} {len : Nat} {V : Nat -> Value} (h : GY W a len V) (hw : Below W.heap.size W w) {k : Nat} (hk : k < len) :
 ∃ b off,a = some ⟨b,off,none⟩ /\ w.cell? ⟨b,off + k,none⟩ = some (V k):=by
 obtain ⟨b,off,ha,hb,hc⟩:=h.at hk
 exact ⟨b,off,ha,(hw.cell (p:=⟨b,off + k,none⟩) hb).trans hc⟩
def I7 (ss : List ByteArray) : List UInt8:=ss.flatMap fun s => As s.size ++ s.data.toList
theorem X8 (s : ByteArray) (ss : List ByteArray) : I7 (s :: ss) = As s.size ++ (s.data.toList ++ I7 ss):=by simp [I7]
def sizes (ss : List ByteArray) : Nat:=(ss.map ByteArray.size).sum
theorem Tt {n : Nat} (h : U64 n) (r : List UInt8) : Gn 18446744073709551615 (some (As n ++ r)) = (n,some r):=by
 rw [QS (GK h r)]
 simp
theorem LM {s : ByteArray} (h : U64 s.size) (r : List UInt8) : textS (some (As s.size ++ (s.data.toList ++ r))) = (s.data.toList,some r):=by
 rw [Lv,Tt h]
 have hl : s.data.toList.length = s.size:=by simp
 simp only
 rw [if_neg (by rw [List.length_append]; omega),IW (by rw [List.length_append]; omega),<- hl]
 simp
end
section
open Go.RowKit
set_option maxHeartbeats 400000 in
set_option maxRecDepth 100000 in
theorem F2 (a : Nat) (h1 : U64 a) (w : World) :
 Calls Tryz.prog 124 #[.int .u64 (a : Int)] w fun e w' => e = .returned (.string ⟨(As a).toArray⟩) /\ Below w.heap.size w w':=by
 obtain ⟨i0,hi,hz0,hz1,hz2⟩:=info_parts infoU8
 go_enter Tryz.func124,Tryz.ntmps124
 go_wp2
 go_loopw [0,3] (fun n v wr => ∃ (m : Nat) (l : List UInt8),U64 m /\ n = .int .u64 m /\ wr.ownsRow w.heap.size 5 1 v l.length (l.map bv) /\ Hid (l ++ As m = As a) /\ Below w.heap.size w wr)
  (fun n _ _ => (intOf n).toNat)
 case atStart => exact ⟨a,[],h1,rfl,World.ownsRow_nil _ _ _ _,rfl,Below.refl _ _⟩
 case round =>
  obtain ⟨m,l,hm,rfl,hown,hl,hb⟩:=hrel
  have hlen : l.length <= 9:=by
   have h2:=Av h1
   have h3:=congrArg List.length hl.out
   have h4:=EJ m
   rw [List.length_append] at h3
   omega
  have hsz:=hb.size
  by_cases h128 : m < 128
  · go_wp2_with (first
      | (at_builtin; refine wpList_append_own _ rfl (.tmp 14) (.tmp 17) 55 rfl w.heap.size 5 i0 (.int .u8 0) 1 1 Tryz.underlying55 hi hz0 hz1 hz2 rfl (by decide) _ _ _ rfl (hown.alloc _) ⟨wr.heap.size,0,none⟩ 1 1 [.int .u8 m] rfl rfl ?c1 ?c2 ?c3 ?c4 ?c5 ?_))
    case c1 => exact Gg _ _ _
    case c2 => exact VW
    case c3 => unfold maxLen; omega
    case c4 => omega
    case c5 => simp; omega
    intro v' w1 hown' hgrow _
    have hown2 : w1.ownsRow w.heap.size 5 1 v' (l ++ As m).length ((l ++ As m).map bv):=by
     rw [El h128]
     simpa [bv,Nat.mod_eq_of_lt (show m < 256 by omega)] using hown'
    rw [hl.out] at hown2
    have hcv:=NS hown2
    have hb1:=(hb.alloc hsz _).grown hgrow (by simp; omega) (fun k hk => (hown.lt k hk).1)
    clear hown hown' hown2 hgrow hb hi
    go_wp2
    go_ret
    exact ⟨rfl,hb1⟩
  · go_wp2_with (first
      | (at_builtin; refine wpList_append_own _ rfl (.tmp 6) (.tmp 10) 55 rfl w.heap.size 5 i0 (.int .u8 0) 1 1 Tryz.underlying55 hi hz0 hz1 hz2 rfl (by decide) _ _ _ rfl (hown.alloc _) ⟨wr.heap.size,0,none⟩ 1 1 [.int .u8 (bits BinOp.or IntKind.u8 (↑m % 256) 128)] rfl rfl ?d1 ?d2 ?d3 ?d4 ?d5 ?_))
    case d1 => exact Gg _ _ _
    case d2 => exact VW
    case d3 => unfold maxLen; omega
    case d4 => omega
    case d5 => simp; omega
    intro v' w1 hown' hgrow _
    have hown2 : w1.ownsRow w.heap.size 5 1 v' (l ++ [UInt8.ofNat (m % 128 + 128)]).length ((l ++ [UInt8.ofNat (m % 128 + 128)]).map bv):=by
     rw [XO] at hown'
     simpa [bv] using hown'
    have hl2 : Hid ((l ++ [UInt8.ofNat (m % 128 + 128)]) ++ As (m / 128) = As a):=by
     have:=hl.out
     rw [Ip (by omega)] at this
     show _ = _
     rw [<- this]; simp
    have hb1:=(hb.alloc hsz _).grown hgrow (by simp; omega) (fun k hk => (hown.lt k hk).1)
    clear hown hown' hgrow hb hi hl
    go_wp2
    go_roundw
    case rel => exact ⟨m / 128,_,hm.le (by omega),by simp,hown2,hl2,hb1⟩
    case measure => simp [intOf]; omega
end
section
open Go.RowKit
set_option maxHeartbeats 400000 in
set_option maxRecDepth 100000 in
theorem Xn (a : Nat) (h1 : U64 a) (w : World) :
 Calls Tryz.prog 221 #[.int .u64 (a : Int)] w fun e w' => e = .returned (.string ⟨(Gv a).toArray⟩) /\ Below w.heap.size w w':=by
 go_enter Tryz.func221,Tryz.ntmps221
 go_wp2
 go_loopw [0,4,5] (fun n _ i wr => ∃ (k : Nat),k <= 8 /\ i = .int .i64 (k : Int) /\ n = .int .u64 ((a / 256 ^ k : Nat) : Int) /\ Hid (∀ j,j < 8 -> wr.cell? ⟨w.heap.size,j,none⟩ = some (.int .u8 (KB a k j))) /\ Hid (∀ j,j < 8 -> wr.frozen? ⟨w.heap.size,j,none⟩ = false) /\ Below w.heap.size w wr)
  (fun _ _ i _ => (8 - intOf i).toNat)
 case atStart =>
  refine ⟨0,by omega,rfl,by simp,fun j hj => ?_,fun j hj => ?_,(Below.refl _ _).alloc (Nat.le_refl _) _⟩
  · rw [World.cell?_alloc_new,UW hj]
    match j,hj with
    | 0,_ | 1,_ | 2,_ | 3,_ | 4,_ | 5,_ | 6,_ | 7,_ => rfl
  · exact World.frozen?_alloc_at _ _ _ _ rfl
 case round =>
  obtain ⟨k,hk,rfl,rfl,hc,hf,hb⟩:=hrel
  by_cases h8 : k < 8
  · have hc0:=hc.out (7 - k) (by omega)
    have hf0:=hf.out (7 - k) (by omega)
    go_wp2
    go_roundw
    case rel =>
     refine ⟨k + 1,by omega,by go_num,?_,fun j hj => ?_,fun j hj => ?_,hb.setCell (Nat.le_refl _) _⟩
     · congr 1
       rw [Nat.pow_succ,<- Nat.div_div_eq_div_mul]; simp
     · by_cases he : j = 7 - k
       · subst he
         rw [World.cell?_setCell_same _ _ _ hc0,Wq h8]
         simp
       · rw [World.cell?_setCell_other _ _ _ _ (by intro h; injection h with _ h; omega),XA he hj]
         exact hc.out j hj
     · rw [World.frozen?_setCell]; exact hf.out j hj
    case measure => simp [intOf]; omega
  · obtain rfl : k = 8:=by omega
    have hcv : ∀ cap,(convert 55 9 (.slice (some ⟨w.heap.size,0,none⟩) (Gv a).length cap)).run Tryz.prog wr = .ok (.string ⟨(Gv a).toArray⟩) wr:=fun cap =>
     run_convert_bytes_back (P:=Tryz.prog) wr 55 9 5 ⟨w.heap.size,0,none⟩ cap (Gv a) Tryz.underlying55 Tryz.underlying5 Tryz.underlying9 (fun j hj => by
      rw [In] at hj
      have e:=Xk a j hj
      rw [List.getElem?_eq_getElem (by rw [In]; exact hj)] at e
      injection e with e
      rw [Addr.add_lit,Nat.zero_add,hc.out j hj,e]
      unfold KB
      rw [if_pos (by omega)])
    simp only [In] at hcv
    go_wp2
    go_ret
    exact ⟨rfl,hb⟩
end
section
open Go.RowKit
end
section
theorem YL {m n : Nat} (h : n <= m) (h2 : U64 n) (r : List UInt8) : Gn m (some (As n ++ r)) = (n,some r):=by
 rw [Oz (GK h2 r) h]; simp
theorem Gm {m n : Nat} (h : n <= m) (h2 : U64 n) (r : List UInt8) : CI (m : Int) (some (As n ++ r)) = (n,some r):=by
 rw [Gk,YL h h2]
theorem VT {m n : Nat} {l r : List UInt8} (h : Gn m (some l) = (n,some r)) : n <= m /\ U64 n /\ l = As n ++ r:=by
 unfold Gn at h
 simp only at h
 cases hg : Dt l with
 | none => rw [hg] at h; simp at h
 | some p =>
   obtain ⟨a,k⟩:=p
   rw [hg] at h
   simp only at h
   have hp:=Jf hg
   split at h
   · rename_i ha
     injection h with h1 h2
     injection h2 with h2
     subst h1
     refine ⟨ha,hp.1,?_⟩
     rw [hp.2.1,<- h2,List.take_append_drop]
   · injection h with h1 h2; cases h2
theorem VD {m : Int} {n : Nat} {l r : List UInt8} (h : CI m (some l) = (n,some r)) : (n : Int) <= m /\ U64 n /\ l = As n ++ r:=by
 unfold CI at h
 split at h
 · injection h with h1 h2; cases h2
 · have:=VT h
   exact ⟨by omega,this.2⟩
theorem YN (m : Int) : CI m none = (0,none):=by unfold CI; split <;> rfl
theorem Ln {n : Nat} (t r : List UInt8) (h : t.length = n) : CW (n : Int) (some (t ++ r)) = (t,some r):=by
 rw [IW (by rw [List.length_append]; omega),<- h]; simp
theorem RM {n : Nat} {l t r : List UInt8} (h : CW (n : Int) (some l) = (t,some r)) : l = t ++ r /\ t.length = n:=by
 simp only [CW] at h
 split at h
 · injection h with h1 h2; cases h2
 · injection h with h1 h2
   injection h2 with h2
   subst h1
   subst h2
   simp
   omega
theorem Xc (n : Int) : CW n none = ([],none):=rfl
theorem Xy {t : List UInt8} (h : U64 t.length) (r : List UInt8) : textS (some (As t.length ++ (t ++ r))) = (t,some r):=by
 rw [Lv,Tt h]
 simp only
 rw [if_neg (by rw [List.length_append]; omega),Ln t r rfl]
theorem RV {l t r : List UInt8} (h : textS (some l) = (t,some r)) : U64 t.length /\ l = As t.length ++ (t ++ r):=by
 rw [Lv] at h
 cases hn : Gn 18446744073709551615 (some l) with
 | mk n o =>
   rw [hn] at h
   cases o with
   | none => injection h with h1 h2; cases h2
   | some q =>
     simp only at h
     obtain ⟨_,h2,rfl⟩:=VT hn
     split at h
     · injection h with h1 h2; cases h2
     · obtain ⟨h3,h4⟩:=RM h
       subst h4
       exact ⟨h2,by rw [h3]⟩
theorem text_none : textS none = ([],none):=rfl
end
section
open Go.RowKit
end
section
open Go.ChangeShapes Go.WideShapes Go.ChangeAt Go.RowKit
theorem Yq {H : Type} (d : DataW H) : 1 <= Rows.uptoBulk d:=by
 cases d with
 | lit l => cases l <;> simp [Rows.uptoBulk]
 | nil => simp [Rows.uptoBulk]
 | ptr d => simp [Rows.uptoBulk]
 | slice elems spare => simp [Rows.uptoBulk]
 | agg parts => simp [Rows.uptoBulk]
 | iface t d => simp [Rows.uptoBulk]
 | map entries => simp [Rows.uptoBulk]
 | held h => simp [Rows.uptoBulk]
theorem Tn {H : Type} (l : List (DataW H)) : l.length <= Rows.uptoBulkAll l:=by
 induction l with
 | nil => simp [Rows.uptoBulkAll]
 | cons x r ih => have:=Yq x; simp only [Rows.uptoBulkAll,List.length_cons]; omega
theorem Ab6 {H : Type} {l : List (DataW H)} (hk : Rows.uptoSmall H l = true) : Rows.uptoBulkAll l <= 1048576:=of_decide_eq_true hk
theorem VX {W : World} {a : Addr} {len n : Nat} {V : Nat -> Value} (hn : len <= n) (hm : len <= maxLen) (h : ∀ i,i < n -> W.cell? (a.add i) = some (V i)) : GY W (some a) len V:=by
 refine ⟨by unfold maxLen at hm; omega,?_⟩
 by_cases h0 : len = 0
 · exact .inl h0
 · obtain ⟨b,off,spot⟩:=a
   have hspot : spot = none:=by simpa [Addr.add] using World.cell?_spot (h 0 (by omega))
   subst hspot
   have hc : ∀ i,i < len -> W.cell? ⟨b,off + i,none⟩ = some (V i):=fun i hi => by rw [<- Addr.add_lit]; exact h i (by omega)
   exact .inr ⟨b,off,rfl,World.block_lt_of_cell? W ⟨b,off + 0,none⟩ (hc 0 (by omega)),hc⟩
section
variable {H : Type} {enc : TypeId × Value -> H} {W : World} {base : Nat} {v : Value} {d : DataW H} {p : List MemPlace}
end
end
end Go.Proofs.YtnafjlhohbhcoaaGreatDoor

/- Parts of the proof. -/
import Derived.Test.YtnafjlhohbhcoaaGreatDoorQ29
import Derived.Test.YtnafjlhohbhcoaaGreatDoorQ10
import Derived.Test.YtnafjlhohbhcoaaGreatDoorQ34
import Derived.Lib.AppendIntMem
import Derived.Test.YtnafjlhohbhcoaaGreatDoorQ23
import Derived.Test.YtnafjlhohbhcoaaGreatDoorQ33
namespace Go.Proofs.YtnafjlhohbhcoaaGreatDoor
open Go.Lib (hid)
set_option linter.unusedVariables false
section
open Go.RowKit Go.Maps Go.WideMaps
def Tab (w : World) : Prop:=Lib.TabIs Tryz.prog w "internal/strconv.uint64pow10" .u64 Lib.pow10Tab
theorem Tab.below {w w' : World} (h : Tab w) (hb : Below w.heap.size w w') : Tab w':=Lib.tabBelow_of_tabIs h w' hb
theorem tab_named : Tryz.prog.globalNamed "internal/strconv.uint64pow10" = some 3:=by kernel_rfl
theorem Tab.turn {F : Nat -> Prop} {w w' : World} (h : Tab w) (t : Ac F w w') (hF : ¬ F 3) : Tab w':=by
 unfold Tab Lib.TabIs World.var? at *
 rw [tab_named] at h ⊢
 simp only [Option.bind_some] at h ⊢
 have hlt : 3 < w.heap.size:=by
  rcases Nat.lt_or_ge 3 w.heap.size with h' | h'
  · exact h'
  · rw [Array.getElem?_eq_none h'] at h; simp at h
 rw [t.block _ hlt hF]
 exact h
theorem Tab.lt {w : World} (h : Tab w) : 3 < w.heap.size:=by
 unfold Tab Lib.TabIs World.var? at h
 rw [tab_named] at h
 simp only [Option.bind_some] at h
 rcases Nat.lt_or_ge 3 w.heap.size with h' | h'
 · exact h'
 · rw [Array.getElem?_eq_none h'] at h; simp at h
theorem SV {w : World} (ht : Tab w) (n : Nat) (hn : n <= 99999999) :
 Calls Tryz.prog 113 #[.int .i64 (n : Int)] w fun e w' => e = .returned (.string ⟨(Lib.decDigits n).toArray⟩) /\ Below w.heap.size w w':=
 (Sh.strconv_Itoa n (by omega) (by omega) w ht).mono fun e w' ⟨he,k,os,hw⟩ => ⟨by rw [he]; unfold Lib.itoa; rw [if_neg (by omega)]; rfl,by rw [hw]; exact Lib.below_grow _ _ (Nat.le_refl _) k os⟩
def LJ (nm : ByteArray) (n : Nat) : ByteArray:=⟨(Af nm.data.toList n).toArray⟩
theorem EA (nm : ByteArray) (n : Nat) : (LJ nm n).data.toList = Af nm.data.toList n:=by unfold LJ; simp
theorem Xt (nm : ByteArray) (n : Nat) : (LJ nm n).size = nm.size + 8:=by
 have h : (LJ nm n).data.toList.length = nm.data.toList.length + 8:=by rw [EA,Jd]
 rw [Array.length_toList,Array.length_toList] at h
 exact h
theorem Wt (nm : ByteArray) {n : Nat} (h : n <= 99999999) : nm ++ ⟨(Lib.repeatL [48] (8 - (Lib.decDigits n).length)).toArray⟩ ++ ⟨(Lib.decDigits n).toArray⟩ = LJ nm n:=by
 apply ByteArray.ext
 apply Array.toList_inj.1
 rw [EA]
 have:=decN_pad 8 n (by omega) (by omega)
 unfold Af
 rw [<- this]
 simp
theorem Aa1 {x y : ByteArray} (h : x = y) : Ending.returned (.string x) = .returned (.string y):=by rw [h]
def Bb (w : World) (q p : Nat) (nm : ByteArray) (c : Nat) (a : Bool) : Prop:=w.heap[q]? = some (.cells #[.pointer (some ⟨p,0,none⟩),.string nm,.int .i64 (c : Int),.bool a] 125 (0,0))
section
variable {w w' : World} {q p c : Nat} {nm : ByteArray} {a : Bool}
theorem Bb.lt (h : Bb w q p nm c a) : q < w.heap.size:=Ad h
theorem Bb.c0 (h : Bb w q p nm c a) : w.cell? ⟨q,0,none⟩ = some (.pointer (some ⟨p,0,none⟩)):=by rw [Ab h]; rfl
theorem Bb.c1 (h : Bb w q p nm c a) : w.cell? ⟨q,1,none⟩ = some (.string nm):=by rw [Ab h]; rfl
theorem Bb.c2 (h : Bb w q p nm c a) : w.cell? ⟨q,2,none⟩ = some (.int .i64 (c : Int)):=by rw [Ab h]; rfl
theorem Bb.c3 (h : Bb w q p nm c a) : w.cell? ⟨q,3,none⟩ = some (.bool a):=by rw [Ab h]; rfl
theorem Bb.free (h : Bb w q p nm c a) (i : Nat) : w.frozen? ⟨q,i,none⟩ = false:=Ag h i
theorem Bb.setApp (h : Bb w q p nm c a) (a' : Bool) : Bb (w.setCell ⟨q,3,none⟩ (.bool a')) q p nm c a':=block_set h 3 _
theorem Bb.setCur (h : Bb w q p nm c a) (c' : Nat) : Bb (w.setCell ⟨q,2,none⟩ (.int .i64 (c' : Int))) q p nm c' a:=block_set h 2 _
theorem Bb.below (h : Bb w q p nm c a) (hb : Below w.heap.size w w') : Bb w' q p nm c a:=(hb.block q h.lt).trans h
theorem Bb.turn {F : Nat -> Prop} (h : Bb w q p nm c a) (t : Ac F w w') (hq : ¬ F q) : Bb w' q p nm c a:=t.keeps h hq
end
set_option maxHeartbeats 400000 in
set_option maxRecDepth 100000 in
theorem Ha {w : World} {q p c : Nat} {nm : ByteArray} {a : Bool} (h : Bb w q p nm c a) (hn8 : nm.size <= 8) (ht : Tab w) (n : Nat) (hn : n <= 99999999) :
 Calls Tryz.prog 105 #[.pointer (some ⟨q,0,none⟩),.int .i64 (n : Int)] w fun e w' => e = .returned (.string (LJ nm n)) /\ Below w.heap.size w w':=by
 have hit:=SV ht n hn
 have hmk:=hid (Wt nm hn)
 have hdl : (Lib.decDigits n).length <= 8:=by rw [Lib.decDigits_length]; exact nDigits_le 8 n (by omega) (by omega)
 obtain ⟨x,hx⟩ : ∃ x : ByteArray,x = ⟨(Lib.decDigits n).toArray⟩:=⟨_,rfl⟩
 have hxs : x.size = (Lib.decDigits n).length:=by
  rw [hx]
  show (Lib.decDigits n).toArray.size = _
  simp
 rw [<- hx] at hit hmk
 have hx8 : x.size <= 8:=by omega
 rw [<- hxs] at hmk
 have H:=hid h
 have hrp : ∀ w : World,Calls Tryz.prog 148 #[.string ⟨#[48]⟩,.int .i64 ((8 - x.size : Nat) : Int)] w fun e w' => e = .returned (.string ⟨(Lib.repeatL [48] (8 - x.size)).toArray⟩) /\ Below w.heap.size w w':=fun w => Sh.strings_Repeat ⟨#[48]⟩ (8 - x.size) w (by omega) (by show 1 * _ <= _; omega)
 obtain ⟨y,hy⟩ : ∃ y : ByteArray,y = ⟨(Lib.repeatL [48] (8 - x.size)).toArray⟩:=⟨_,rfl⟩
 have hy8 : y.size <= 8:=by
  rw [hy]
  show (Lib.repeatL [48] (8 - x.size)).toArray.size <= 8
  rw [List.size_toArray,Lib.repeatL_length]
  simp
 rw [<- hy] at hmk
 have hz1 : ¬ 9223372036854775807 < nm.size + y.size:=by omega
 have hz2 : ¬ 9223372036854775807 < nm.size + y.size + x.size:=by omega
 have HR:=hid hrp
 rw [<- hy] at HR
 clear hx hxs hdl h ht hy hrp
 go_enter Tryz.func105,Tryz.ntmps105
 go_wp2_with fail
 refine hit.mono ?_
 rintro e w1 ⟨rfl,b1⟩
 have h1:=H.out.below b1
 have c1:=h1.c1
 have hq1:=h1.lt
 have hcast : IntKind.i64.wrap (8 - (x.size : Int)) = ((8 - x.size : Nat) : Int):=by
  rw [IntWalk.i64_in _ (by omega)]; omega
 have B1:=hid b1
 clear hit b1 h1
 go_wp2
 go_region_held3 (fun w' => w'.cell? ⟨q,1,none⟩ = some (.string nm)) (first | exact c1 | exact c1a)
  ((go_at_call 148; refine (HR.out _).mono ?_; rintro e w2 ⟨rfl,b2⟩; have c1a:=(World.cell?_of_block (w:=w1) (b2.block q hq1)).trans c1; have B2:=hid b2))
 all_goals go_wp2
 all_goals go_ret
 all_goals exact ⟨Aa1 hmk.out,A4 B1.out (Nat.le_refl _) (Co B2.out)⟩
theorem WS {nm f : Key} (h : Lib.hasPrefix f nm = false) : AE nm f = 0:=by unfold AE; rw [if_neg (by simp [h])]
theorem Qp {nm f : Key} (h : ¬ (f.drop nm.length).length = 8) : AE nm f = 0:=by unfold AE; rw [if_neg (fun hc => h hc.2.1)]
theorem U1 {nm f : Key} {k : Nat} (h : k < (f.drop nm.length).length) (hc : I3 (f.drop nm.length)[k] = false) : AE nm f = 0:=by
 unfold AE
 rw [if_neg]
 rintro ⟨_,_,h3⟩
 rw [List.all_eq_true] at h3
 have:=h3 _ (List.getElem_mem h)
 rw [hc] at this; cases this
theorem SM {nm f : Key} (h1 : Lib.hasPrefix f nm = true) (h2 : (f.drop nm.length).length = 8) (h3 : (f.drop nm.length).all I3 = true) : AE nm f = IX (f.drop nm.length):=by unfold AE; rw [if_pos ⟨h1,h2,h3⟩]
structure Ij (d : ByteArray) (k n : Nat) : Prop where
 all : (d.data.toList.take k).all I3 = true
 val : IX (d.data.toList.take k) = n
 small : n < 10 ^ k
theorem Ij.start (d : ByteArray) : Ij d 0 0:=⟨rfl,rfl,by decide⟩
theorem Ij.next {d : ByteArray} {k n : Nat} (h : Ij d k n) (hk : k < d.size) (h1 : 48 <= d[k].toNat) (h2 : d[k].toNat <= 57) : Ij d (k + 1) (10 * n + (d[k].toNat - 48)):=by
 have hk' : k < d.data.toList.length:=by simpa using hk
 have e : d.data.toList.take (k + 1) = d.data.toList.take k ++ [d[k]]:=by rw [List.take_succ_eq_append_getElem hk']; rfl
 refine ⟨?_,?_,?_⟩
 · rw [e,List.all_append,h.all]
   simp only [List.all_cons,List.all_nil,Bool.and_true,Bool.true_and,I3]
   exact decide_eq_true ⟨h1,h2⟩
 · rw [e,Hx,h.val]
 · have:=h.small
   rw [Nat.pow_succ]; omega
theorem Ij.end {d : ByteArray} {n : Nat} (h : Ij d d.size n) : d.data.toList.all I3 = true /\ IX d.data.toList = n:=by
 have e : d.data.toList.take d.size = d.data.toList:=by rw [List.take_of_length_le]; simp
 have h1:=h.all
 have h2:=h.val
 rw [e] at h1 h2
 exact ⟨h1,h2⟩
theorem Abl {k n : Nat} (hk : k <= 8) (h : n < 10 ^ k) : n < 100000000:=Nat.lt_of_lt_of_le h (Nat.le_trans (Nat.pow_le_pow_right (by omega) hk) (by decide))
theorem Zk {a b : Int} (h : a = b) : Value.int .i64 a = .int .i64 b:=by rw [h]
theorem Aa7 {a b : Int} (h : a = b) : Ending.returned (.int .i64 a) = .returned (.int .i64 b):=by rw [h]
set_option maxHeartbeats 1000000 in
set_option maxRecDepth 100000 in
theorem Rh {w : World} {q p c : Nat} {nm : ByteArray} {a : Bool} (h : Bb w q p nm c a) (f : ByteArray) (hf : f.size <= maxLen) :
 Calls Tryz.prog 103 #[.pointer (some ⟨q,0,none⟩),.string f] w fun e w' => e = .returned (.int .i64 (AE nm.data.toList f.data.toList : Nat)) /\ w = w':=by
 unfold maxLen at hf
 have c1:=h.c1
 have hcut:=Sh.strings_CutPrefix f nm w
 cases hp : Lib.hasPrefix f.data.toList nm.data.toList with
 | false =>
   have hz:=hid (WS hp)
   rw [hp] at hcut
   unfold Lib.trimPrefix at hcut
   rw [hp,if_neg (by simp)] at hcut
   clear hp h
   go_enter Tryz.func103,Tryz.ntmps103
   go_wp2_with fail
   refine hcut.mono ?_
   rintro e w' ⟨rfl,rfl⟩
   go_wp2
   go_ret
   exact ⟨by rw [hz.out]; rfl,rfl⟩
 | true =>
   rw [hp] at hcut
   unfold Lib.trimPrefix at hcut
   rw [hp,if_pos rfl] at hcut
   obtain ⟨d,hd⟩ : ∃ d : ByteArray,d = ⟨(f.data.toList.drop nm.data.toList.length).toArray⟩:=⟨_,rfl⟩
   have hdl : d.data.toList = f.data.toList.drop nm.data.toList.length:=by rw [hd]
   have hds : d.size = (f.data.toList.drop nm.data.toList.length).length:=by rw [<- hdl]; simp
   rw [<- hd] at hcut
   have hdf : d.size <= f.size:=by
    rw [hds,List.length_drop]
    simp
   by_cases h8 : d.size = 8
   · have HP:=hid hp
     have HDL:=hid hdl
     have HDS:=hid hds
     have HM:=hid h8
     have h8' : (8 : Int) = (d.size : Int):=by omega
     have hle : d.size <= 8:=by omega
     have hne : ((d.size : Int) != 8) = false:=by simp [h8]
     have h88 : 8 <= d.size:=by omega
     clear hp hdl hds hd h h8 h8'
     go_enter Tryz.func103,Tryz.ntmps103
     go_wp2_with fail
     refine hcut.mono ?_
     rintro e w' ⟨rfl,rfl⟩
     go_wp2
     go_loop [7,28] (fun nv iv => ∃ (k n : Nat),k <= d.size /\ iv = .int .i64 (k : Int) /\ nv = .int .i64 (n : Int) /\ n < 100000000 /\ Hid (Ij d k n)) (fun _ iv => d.size - (intOf iv).toNat)
     case atStart => exact ⟨0,0,by omega,rfl,rfl,by omega,Ij.start d⟩
     case round =>
      obtain ⟨k,n,hk,rfl,rfl,hn,HN⟩:=hrel
      by_cases hlt : k < d.size
      · by_cases hdig : 48 <= d[k].toNat /\ d[k].toNat <= 57
        · obtain ⟨g1,g2⟩:=hdig
          have hN:=HN.out.next hlt g1 g2
          have hb2:=Abl (by omega) hN.small
          have HN2:=hid hN
          have hb1 : 10 * n + (d[k].toNat - 48) < 100000000:=hb2
          clear hN hb2
          go_wp2
          go_round
          case rel => exact ⟨k + 1,10 * n + (d[k].toNat - 48),by omega,by go_num,Zk (by omega),hb1,HN2⟩
          case measure => simp [intOf]; omega
        · have hbad : I3 d[k] = false:=by unfold I3; exact decide_eq_false hdig
          have hz : Hid (AE nm.data.toList f.data.toList = 0):=U1 (k:=k) (by rw [<- HDS.out]; exact hlt) (by
           have:=HDL.out
           rw [<- hbad]
           congr 1
           have e : (f.data.toList.drop nm.data.toList.length)[k]? = d.data.toList[k]?:=by rw [this]
           rw [List.getElem?_eq_getElem (by rw [<- HDS.out]; exact hlt),List.getElem?_eq_getElem (by simpa using hlt)] at e
           injection e with e)
          by_cases hlow : d[k].toNat < 48
          · clear hdig hbad
            go_wp2
            go_ret
            exact ⟨by rw [hz.out]; rfl,rfl⟩
          · have hhigh : 57 < d[k].toNat:=by omega
            clear hdig hbad
            go_wp2
            go_ret
            exact ⟨by rw [hz.out]; rfl,rfl⟩
      · obtain rfl : k = d.size:=by omega
        obtain ⟨e1,e2⟩:=HN.out.end
        have hz : Hid (AE nm.data.toList f.data.toList = n):=by
         show _ = _
         rw [SM HP.out (by rw [<- HDS.out]; exact HM.out) (by rw [<- HDL.out]; exact e1),<- HDL.out]; exact e2
        clear e1 e2
        go_wp2
        go_ret
        exact ⟨Aa7 (by rw [hz.out]),rfl⟩
   · have hz:=hid (Qp (by rw [<- hds]; exact h8))
     have hne : ((d.size : Int) != 8) = true:=by simp; omega
     clear hp h hdl hds hd h8
     go_enter Tryz.func103,Tryz.ntmps103
     go_wp2_with fail
     refine hcut.mono ?_
     rintro e w' ⟨rfl,rfl⟩
     go_wp2
     go_ret
     exact ⟨by rw [hz.out]; rfl,rfl⟩
end
section
open Go.RowKit Go.Lib
def AR (w : World) (B b : Nat) (l : List UInt8) : Prop:=Lib.IsBuilderF 182 5 B b (Lib.byteCells l) w
theorem AR.lt {w : World} {B b : Nat} {l : List UInt8} (h : AR w B b l) : b < w.heap.size:=by
 rcases h with h | h <;> exact h.lt
theorem AR.kept {w w' : World} {B b : Nat} {l : List UInt8} {row : Option Nat} (h : AR w B b l) (hg : w.grownBy w' row) (hr : ∀ r,row = some r -> ∃ o,w.heap[r]? = some o /\ o.isCells = false) : AR w' B b l:=by
 have key : ∀ p,Lib.BuilderAtF 182 5 B b p (Lib.byteCells l) w -> Lib.BuilderAtF 182 5 B b p (Lib.byteCells l) w':=by
  rintro p ⟨hB,v,hbk,hown,hne⟩
  refine ⟨hB,v,?_,hown.kept hg ?_,hne⟩
  · rw [hg.block b (Array.getElem?_eq_some_iff.1 hbk).1 (fun e => ?_)]
    · exact hbk
    · obtain ⟨o,h1,h2⟩:=hr b e.symm
      rw [hbk] at h1
      cases h1
      cases h2
  · cases hv : v.ownBlock with
    | none => exact .inl rfl
    | some k =>
      refine .inr (fun e => ?_)
      obtain ⟨o,h1,h2⟩:=hr k e.symm
      rcases hown.2 with ⟨rfl,_⟩ | ⟨g,cap,cur,fz,rfl,_,hg2,_⟩
      · cases hv
      · simp [Value.ownBlock] at hv
        subst hv
        rw [hg2] at h1
        cases h1
        cases h2
 rcases h with h | h
 · exact .inl (key _ h)
 · exact .inr (key _ h)
theorem AR.ownFrom {α : Type} (B b D : Nat) (f : α -> List UInt8) : OwnFrom D (fun s W => AR W B b (f s)):=fun s W W' row hs hg hr => hs.kept hg (fun r e => (hr r e).2)
theorem AR.alloc {w : World} {B b : Nat} {l : List UInt8} (h : AR w B b l) (o : Obj) : AR (w.alloc o) B b l:=by
 rcases h with h | h
 · exact .inl (h.alloc o)
 · exact .inr (h.alloc o)
theorem AR.kept2 {w w' : World} {B b : Nat} {l : List UInt8} (h : AR w B b l) (hb : Below w.heap.size w w') : AR w' B b l:=
 h.kept (row:=none) ⟨hb.os,hb.tape,hb.output,hb.size,fun k hk _ => hb.block k hk⟩ (fun r e => by cases e)
theorem AR.far {w w' : World} {B b : Nat} {l : List UInt8} (h : AR w B b l) (hk : ∀ k,B <= k -> k < w.heap.size -> w'.heap[k]? = w.heap[k]?) : AR w' B b l:=by
 have key : ∀ p,Lib.BuilderAtF 182 5 B b p (Lib.byteCells l) w -> Lib.BuilderAtF 182 5 B b p (Lib.byteCells l) w':=by
  rintro p ⟨hBb,v,hbk,hown,hne⟩
  refine ⟨hBb,v,(hk b hBb (Ad hbk)).trans hbk,⟨hown.1,?_⟩,hne⟩
  rcases hown.2 with h | ⟨g,cap,cur,fz,h1,h2,h3,h4⟩
  · exact .inl h
  · exact .inr ⟨g,cap,cur,fz,h1,h2,(hk g h2 (Ad h3)).trans h3,h4⟩
 rcases h with h | h
 · exact .inl (key _ h)
 · exact .inr (key _ h)
theorem AR.new (w : World) : AR (w.alloc (.cells #[.pointer none,.slice none 0 0] 182)) w.heap.size w.heap.size []:=
 Lib.IsBuilderF.of (Lib.fresh_isBuilder _ _ w)
def BV (w w' : World) : Prop:=∀ (k : Nat) (o : Obj),w.heap[k]? = some o -> (∀ (cs : Array Value) (t : TypeId) (fr : Nat × Nat),o = Obj.cells cs t fr -> t ≠ 182 /\ t ≠ 5) -> w'.heap[k]? = some o
theorem BV.refl (w : World) : BV w w:=fun _ _ h _ => h
theorem BV.trans {a b c : World} (h : BV a b) (k : BV b c) : BV a c:=fun i o h1 h2 => k i o (h i o h1 h2) h2
theorem BV.of_below {w w' : World} (h : Below w.heap.size w w') : BV w w':=fun k o h1 _ => (h.block k (Ad h1)).trans h1
theorem BV.set {w : World} {b j : Nat} {v : Value} {cs : Array Value} {fr : Nat × Nat} (hb : w.heap[b]? = some (.cells cs 182 fr)) : BV w (w.setCell ⟨b,j,none⟩ v):=fun k o h1 h2 => by
 rw [Cr (fun e => ?_)]
 · exact h1
 · subst e
   rw [hb] at h1
   cases h1
   exact (h2 _ _ _ rfl).1 rfl
theorem BV.grown {w w' : World} {B : Nat} {v : Value} {n : Nat} {xs : List Value} (hown : w.ownsRowF B 5 1 v n xs) (hg : w.grownBy w' v.ownBlock) : BV w w':=fun k o h1 h2 => by
 rw [hg.block k (Ad h1) (fun e => ?_)]
 · exact h1
 · rcases hown.2 with ⟨rfl,_⟩ | ⟨g,cap,cur,fz,rfl,_,hg2,_⟩
   · simp [Value.ownBlock] at e
   · simp [Value.ownBlock] at e
     subst e
     rw [hg2] at h1
     cases h1
     exact (h2 _ _ _ rfl).2 rfl
theorem BV.others {w w' : World} (h : BV w w') (hs : w.heap.size <= w'.heap.size) : KeepsOthers w w':=⟨hs,fun k o h1 h2 => h k o h1 (fun cs t fr e => by subst e; cases h2)⟩
theorem BV.cells {w w' : World} (h : BV w w') {k : Nat} {cs : Array Value} {t : TypeId} {fr : Nat × Nat} (hk : w.heap[k]? = some (.cells cs t fr)) (h1 : t ≠ 182) (h2 : t ≠ 5) : w'.heap[k]? = some (.cells cs t fr):=h k _ hk (fun _ _ _ e => by cases e; exact ⟨h1,h2⟩)
theorem infoBld : (Tryz.prog.info? 182).map (·.size) = some 2:=by kernel_rfl
theorem liesBld : liesAt Tryz.prog Tryz.prog.depth 182 (2 / Tryz.prog.cellsOf 182) 0 182 1 = true:=by kernel_rfl
set_option maxHeartbeats 1000000 in
set_option maxRecDepth 100000 in
theorem TO {w : World} {B b : Nat} {l : List UInt8} (h : AR w B b l) :
 Calls Tryz.prog 167 #[.pointer (some ⟨b,0,none⟩)] w fun e w' => e = .returned (.tuple #[]) /\ (Lib.BuilderAtF 182 5 B b (.pointer (some ⟨b,0,none⟩)) (Lib.byteCells l) w' /\ Below B w w' /\ BV w w'):=by
 obtain ⟨j,hj,hjs⟩:=Option.map_eq_some_iff.1 infoBld
 rcases h with h | h
 · have h0:=h.cell0
   have hsh:=h.shape
   have hfz:=h.frozen0
   have HU:=hid (h.used (.pointer (some ⟨b,0,none⟩)))
   have HB:=hid h.1
   have HK : Hid (BV w (w.setCell ⟨b,0,none⟩ (.pointer (some ⟨b,0,none⟩)))):=by
    obtain ⟨_,v,hbk,_⟩:=h
    exact BV.set hbk
   clear h
   go_enter Tryz.func167,Tryz.ntmps167
   go_wp2
   rw [Lib.run_to_unsafe w ⟨b,0,none⟩ Tryz.underlying180 Tryz.underlying247 hj (by rw [hjs]; decide) hsh (Nat.zero_lt_succ 1)]
   simp only [Result.andThen]
   rw [Oper.upon_value]
   go_wp2
   rw [run_callFunc_extern Tryz.func207 (by kernel_rfl) (by kernel_rfl) (by kernel_rfl) (e:=Extern.AbiNoEscape.same) (by kernel_rfl)]
   rw [Lib.run_noEscape]
   simp only [Result.andThen]
   rw [Oper.upon_value]
   go_wp2
   rw [Lib.run_from_unsafe w ⟨b,0,none⟩ Tryz.underlying247 Tryz.underlying180 hj hsh liesBld]
   simp only [Result.andThen]
   rw [Oper.upon_value]
   go_wp2
   go_end0
   exact ⟨rfl,HU.out,(Below.refl B w).setCell (p:=⟨b,0,none⟩) HB.out _,HK.out⟩
 · have h0:=h.cell0
   have HU:=hid h
   clear h
   go_enter Tryz.func167,Tryz.ntmps167
   go_wp2
   rw [Lib.run_neq_ptr_same w _ Tryz.underlying180 hj]
   go_wp2
   go_end0
   exact ⟨rfl,HU.out,Below.refl B _,BV.refl _⟩
set_option maxHeartbeats 2000000 in
set_option maxRecDepth 100000 in
theorem Cf {w : World} {B b : Nat} {l : List UInt8} (h : AR w B b l) (s : ByteArray) (hlen : l.length + s.size <= 140737488355328) (hBw : B <= w.heap.size) :
 Calls Tryz.prog 123 #[.pointer (some ⟨b,0,none⟩),.string s] w fun e w' => e = .returned (.tuple #[.int .i64 s.size,.nilIface]) /\ AR w' B b (l ++ s.data.toList) /\ Below B w w' /\ BV w w':=by
 obtain ⟨i0,hi,hz0,hz1,hz2⟩:=info_parts infoU8
 have hbl : (Lib.byteCells l).length = l.length:=Lib.byteCells_length l
 go_enter Tryz.func123,Tryz.ntmps123
 go_wp2_with fail
 refine (TO h).mono ?_
 rintro e w1 ⟨rfl,h1,hb1,hk1⟩
 obtain ⟨hB,v,hbk,hown,hne⟩:=h1
 have c0 : w1.cell? ⟨b,0,none⟩ = some (.pointer (some ⟨b,0,none⟩)):=by rw [Lib.cell_of_heap hbk]; rfl
 have c1 : w1.cell? ⟨b,1,none⟩ = some v:=by rw [Lib.cell_of_heap hbk]; rfl
 go_wp2_with (at_builtin; go_loud (refine Lib.wpList_append_own_stringF _ rfl _ _ 55 9 rfl B 5 i0 Tryz.underlying55 Tryz.underlying9 hi hz0 hz1 hz2 _ _ _ rfl hown s rfl ?c3 ?c4 ?c5 ?_))
 case c3 => unfold maxLen; omega
 case c4 => omega
 case c5 => have:=hb1.size; omega
 intro v' w2 hown' hgrow _
 have hlt : b < w1.heap.size:=by
  rcases Nat.lt_or_ge b w1.heap.size with h' | h'
  · exact h'
  · simp [Array.getElem?_eq_none h'] at hbk
 have hb2 : w2.heap[b]? = some (.cells #[.pointer (some ⟨b,0,none⟩),v] 182 (0,0)):=by
  rw [hgrow.block b hlt (fun e => hne e.symm)]
  exact hbk
 have HK:=hid ((hk1.trans (BV.grown hown hgrow)).trans (BV.set (j:=1) (v:=v') hb2))
 have d0 : w2.cell? ⟨b,0,none⟩ = some (.pointer (some ⟨b,0,none⟩)):=by rw [Lib.cell_of_heap hb2]; rfl
 have d1 : w2.cell? ⟨b,1,none⟩ = some v:=by rw [Lib.cell_of_heap hb2]; rfl
 have f1 : w2.frozen? ⟨b,1,none⟩ = false:=Lib.frozen_of_heap hb2 1
 obtain ⟨ao,n',cap,rfl⟩ : ∃ ao n' cap,v' = .slice ao n' cap:=by
  rcases hown'.2 with ⟨hv,_⟩ | ⟨g,cap,cur,fz,hv,_⟩
  · exact ⟨_,_,_,hv⟩
  · exact ⟨_,_,_,hv⟩
 go_wp2
 go_ret2
 refine ⟨rfl,.inr ?_,?_,HK.out⟩
 · rw [Lib.byteCells_append]
   exact Lib.BuilderAtF.put (T:=182) (e:=5) hB hb2 (bs':=Lib.byteCells l ++ Lib.strCells s) (by simpa [Lib.strCells_length,hbl] using hown') (by decide)
 · exact (hb1.grown hgrow (by have:=hb1.size; omega) (fun k hk => (hown.lt k hk).1)).setCell (p:=⟨b,1,none⟩) hB _
theorem BV.of_others {w w' : World} {B b : Nat} {l : List UInt8} (hb : AR w B b l) (h : Lib.OthersKept 5 (some b) w w') : BV w w':=fun k o h1 h2 => by
 refine h k o h1 (fun e => ?_) (fun c fz e => (h2 c _ fz e).2 rfl)
 injection e with e
 subst e
 rcases hb with ⟨_,v,hbk,_⟩ | ⟨_,v,hbk,_⟩
 · rw [hbk] at h1
   injection h1 with h1
   exact (h2 _ _ _ h1.symm).1 rfl
 · rw [hbk] at h1
   injection h1 with h1
   exact (h2 _ _ _ h1.symm).1 rfl
theorem F6 {w : World} {B b : Nat} {l : List UInt8} (h : AR w B b l) (hBw : B <= w.heap.size) :
 Calls Tryz.prog 127 #[.pointer (some ⟨b,0,none⟩)] w fun e w' => e = .returned (.string ⟨l.toArray⟩) /\ Below B w w' /\ BV w w':=
 (Sh.Builder_String_any_k B b l w h hBw).mono (fun e w' k => ⟨k.1,k.2.2.1,BV.of_others h k.2.2.2⟩)
end
section
open Go.RowKit Go.Lib
theorem Uq {l : List Aa} {i : Nat} (h : i < l.length) : AS (l.take (i + 1)) = AS (l.take i) ++ Du l[i]:=by
 rw [List.take_succ_eq_append_getElem h,M5]
theorem ZL (n : Nat) (h : n <= 8192) : (∀ m : Int,m = (n : Int) -> IntKind.u64.wrap m = (n : Int)) /\ (∀ m : Int,m = (n : Int) + 1 -> IntKind.u64.wrap m = ((n + 1 : Nat) : Int)):=by
 refine ⟨?_,?_⟩
 · rintro m rfl; rw [IntKind.wrap_u64]; omega
 · rintro m rfl; rw [IntKind.wrap_u64]; omega
set_option maxHeartbeats 2000000 in
set_option maxRecDepth 100000 in
theorem Rf {w : World} {a : Option Addr} {c : Nat} {l : List Aa} (h : Aj w (.slice a l.length c) l) (hf : Az l) (h8 : l.length <= 8) :
 Calls Tryz.prog 177 #[.slice a l.length c] w fun e w' => e = .returned (.string ⟨(AS l).toArray⟩) /\ Below w.heap.size w w':=by
 have hB0:=AR.new w
 have hb0 : Below w.heap.size w (w.alloc (.cells #[.pointer none,.slice none 0 0] 182)):=(Below.refl _ w).alloc (Nat.le_refl _) _
 have H:=hid h
 have HF:=hid hf
 have HB0:=hid hB0
 have Hb0:=hid hb0
 clear h hf hB0 hb0
 go_enter Tryz.func177,Tryz.ntmps177
 go_wp2
 generalize w.alloc (.cells #[.pointer none,.slice none 0 0] 182) = w0 at *
 go_loopw [8] (fun iv wr => ∃ i : Nat,i <= l.length /\ iv = .int .i64 (i : Int) /\ Hid (AR wr w.heap.size w.heap.size (AS (l.take i)) /\ Below w.heap.size w wr)) (fun iv _ => l.length - (intOf iv).toNat)
 case atStart => exact ⟨0,Nat.zero_le _,rfl,HB0.out,Hb0.out⟩
 case round =>
  clear HB0 Hb0
  obtain ⟨i,hi,rfl,HR⟩:=hrel
  by_cases hlt : i < l.length
  · obtain ⟨b,o,rfl,q0,q1,q2⟩:=H.out.in HR.out.2 hlt
    have hxf:=HF.out l[i] (List.getElem_mem hlt)
    have HN:=hid (Uq hlt)
    have hz:=JS (xs:=l.take i) (fun x hx => HF.out x (List.mem_of_mem_take hx)) (by rw [List.length_take]; omega)
    have hmeas : l.length - (intOf (.int .i64 ((i : Int) + 1))).toNat < l.length - (intOf (.int .i64 (i : Int))).toNat:=by simp [intOf]; omega
    generalize l[i] = X at *
    obtain ⟨k1,k2,v1,_⟩:=(Cj X).1 hxf
    obtain ⟨xk,xv,xg⟩:=X
    simp only at q0 q1 q2 k1 k2 v1
    clear hxf
    have hbt:=HR.out.1.alloc (.cells #[.string xk,.string xv,.bool xg] 57)
    have hbb:=HR.out.2.alloc HR.out.2.size (.cells #[.string xk,.string xv,.bool xg] 57)
    have hl1:=Av (AK (n:=xk.size) (by omega))
    have hl2:=Av (AK (n:=xv.size + 1) (by omega))
    have hl3:=Av (AK (n:=0) (by omega))
    have hkl : xk.data.toList.length = xk.size:=by simp
    have hvl : xv.data.toList.length = xv.size:=by simp
    have hT:=fun w => IZ xk (by omega) w
    have hI:=fun w => F2 (xv.size + 1) (AK (by omega)) w
    have hI0:=fun w => F2 0 (AK (by omega)) w
    obtain ⟨T,eT⟩ : ∃ T : ByteArray,(⟨(As xk.size ++ xk.data.toList).toArray⟩ : ByteArray) = T:=⟨_,rfl⟩
    obtain ⟨I,eI⟩ : ∃ I : ByteArray,(⟨(As (xv.size + 1)).toArray⟩ : ByteArray) = I:=⟨_,rfl⟩
    obtain ⟨I0,eI0⟩ : ∃ I : ByteArray,(⟨(As 0).toArray⟩ : ByteArray) = I:=⟨_,rfl⟩
    have dT : T.data.toList = As xk.size ++ xk.data.toList:=by rw [<- eT]
    have dI : I.data.toList = As (xv.size + 1):=by rw [<- eI]
    have dI0 : I0.data.toList = As 0:=by rw [<- eI0]
    have zT : T.size <= 74:=by rw [<- eT,A0,List.length_append]; omega
    have zI : I.size <= 10:=by rw [<- eI,A0]; exact hl2
    have zI0 : I0.size <= 10:=by rw [<- eI0,A0]; exact hl3
    have HX : Hid (Du ⟨xk,xv,true⟩ = T.data.toList ++ I0.data.toList /\ Du ⟨xk,xv,false⟩ = T.data.toList ++ I.data.toList ++ xv.data.toList):=by
     constructor
     · rw [XB,dT,dI0]
     · rw [TZ,dT,dI]
    simp only [eT] at hT
    simp only [eI] at hI
    simp only [eI0] at hI0
    obtain ⟨wr1,wr2⟩:=ZL xv.size v1
    have lT : T.data.toList.length = T.size:=by simp
    have lI : I.data.toList.length = I.size:=by simp
    have lI0 : I0.data.toList.length = I0.size:=by simp
    have hnew:=heap_alloc_new wr (.cells #[.string xk,.string xv,.bool xg] 57)
    have hsz : (wr.alloc (.cells #[.string xk,.string xv,.bool xg] 57)).heap.size = wr.heap.size + 1:=by simp
    have hs:=HR.out.2.size
    have SB : Hid (∀ w',BV (wr.alloc (.cells #[.string xk,.string xv,.bool xg] 57)) w' -> w'.cell? ⟨wr.heap.size,0,none⟩ = some (.string xk) /\ w'.cell? ⟨wr.heap.size,1,none⟩ = some (.string xv) /\ w'.cell? ⟨wr.heap.size,2,none⟩ = some (.bool xg)):=fun w' t => by
     have hh:=t.cells hnew (by decide) (by decide)
     exact ⟨by rw [Ab hh]; rfl,by rw [Ab hh]; rfl,by rw [Ab hh]; rfl⟩
    have HBT:=hid hbt
    have HBB:=hid hbb
    have HSZ:=hid hsz
    clear eT eI eI0 hl1 hl2 hl3 hkl hnew HR hbt hbb dT dI dI0
    go_wp2_with fail
    clear q0 q1 q2
    generalize wr.alloc (.cells #[.string xk,.string xv,.bool xg] 57) = w1 at *
    generalize wr.heap.size = pb at *
    refine (hT _).mono ?_
    rintro e w2 ⟨rfl,b2⟩
    have S2:=hid (BV.of_below b2)
    have T2:=hid (HBT.out.kept2 b2)
    have B2:=hid (HBB.out.trans (b2.mono HBB.out.size))
    clear b2 HBT
    go_wp2_with fail
    refine (Cf T2.out T (by omega) B2.out.size).mono ?_
    rintro e w3 ⟨rfl,t3,b3,k3⟩
    have S3:=hid (S2.out.trans k3)
    have T3:=hid t3
    have B3:=hid (B2.out.trans b3)
    obtain ⟨c0,c1,c2⟩:=SB.out _ S3.out
    clear t3 b3 k3 T2 B2 S2
    cases xg with
    | true =>
      go_wp2_with fail
      refine (hI0 _).mono ?_
      rintro e w4 ⟨rfl,b4⟩
      have T4:=hid (T3.out.kept2 b4)
      have B4:=hid (B3.out.trans (b4.mono B3.out.size))
      clear b4
      go_wp2_with fail
      refine (Cf T4.out I0 (by rw [List.length_append]; omega) B4.out.size).mono ?_
      rintro e w5 ⟨rfl,t5,b5,k5⟩
      have T5:=hid t5
      have B5:=hid (B4.out.trans b5)
      clear t5 b5 k5
      go_wp2
      go_roundw
      case rel => exact ⟨i + 1,by omega,by go_num,by rw [HN.out,HX.out.1,<- List.append_assoc]; exact T5.out,B5.out⟩
      case measure => exact hmeas
    | false =>
      go_wp2_with fail
      refine (hI _).mono ?_
      rintro e w4 ⟨rfl,b4⟩
      have T4:=hid (T3.out.kept2 b4)
      have B4:=hid (B3.out.trans (b4.mono B3.out.size))
      have S4:=hid (S3.out.trans (BV.of_below b4))
      clear b4
      go_wp2_with fail
      refine (Cf T4.out I (by rw [List.length_append]; omega) B4.out.size).mono ?_
      rintro e w5 ⟨rfl,t5,b5,k5⟩
      have T5:=hid t5
      have B5:=hid (B4.out.trans b5)
      have S5:=hid (S4.out.trans k5)
      obtain ⟨d0,d1,d2⟩:=SB.out _ S5.out
      clear t5 b5 k5
      go_wp2_with fail
      refine (Cf T5.out xv (by rw [List.length_append,List.length_append]; omega) B5.out.size).mono ?_
      rintro e w6 ⟨rfl,t6,b6,k6⟩
      have T6:=hid t6
      have B6:=hid (B5.out.trans b6)
      clear t6 b6 k6
      go_wp2
      go_roundw
      case rel => exact ⟨i + 1,by omega,by go_num,by rw [HN.out,HX.out.2,<- List.append_assoc,<- List.append_assoc]; exact T6.out,B6.out⟩
      case measure => exact hmeas
  · obtain rfl : i = l.length:=by omega
    rw [List.take_length] at HR
    have hs:=HR.out.2.size
    go_wp2_with fail
    refine (F6 HR.out.1 hs).mono ?_
    rintro e w5 ⟨rfl,b5,-⟩
    have HB5:=hid (HR.out.2.trans b5)
    clear b5
    go_wp2
    go_ret
    exact ⟨rfl,HB5.out⟩
end
section
open Go.RowKit Go.Shelf Go.Maps Go.WideMaps
attribute [local go_sem] Oper.semAt_some
abbrev Ch (n : Nat):={ i : Nat // 8 * i < n }
theorem ch_lt {n : Nat} : ∀ i ∈ List.range (Ao n),8 * i < n:=fun i hi => by
 have:=List.mem_range.1 hi
 unfold Ao at this
 omega
def Cy (n : Nat) : List (Ch n):=(List.range (Ao n)).pmap (fun i h => ⟨i,h⟩) ch_lt
theorem Ig (n : Nat) : (Cy n).length = Ao n:=by simp [Cy]
theorem On {α : Type} (n : Nat) (f : Nat -> α) : (Cy n).map (fun x => f x.1) = (List.range (Ao n)).map f:=by
 unfold Cy
 rw [List.map_pmap]
 exact List.pmap_eq_map ..
theorem SK {n k : Nat} (h : 8 * k < n) : (Cy n).take (k + 1) = (Cy n).take k ++ [⟨k,h⟩]:=by
 have hk : k < (Cy n).length:=by rw [Ig]; unfold Ao; omega
 rw [List.take_succ_eq_append_getElem hk]
 congr 2
 simp [Cy]
theorem TS {n k : Nat} (h : n <= 8 * k) : (Cy n).take k = Cy n:=List.take_of_length_le (by rw [Ig]; unfold Ao; omega)
def Ds (b o n i : Nat) : Value:=.slice (some ⟨b,o + 8 * i * 3,none⟩) (min 8 (n - 8 * i)) (min 8 (n - 8 * i))
theorem Um {W : World} {b o c : Nat} {l : List Aa} (h : Aj W (.slice (some ⟨b,o,none⟩) l.length c) l) (x : Ch l.length) : Aj W (Ds b o l.length x.1) (BQ l x.1):=by
 obtain ⟨hm,a',c',hv,h1⟩:=h
 injection hv with e1 e2 e3
 subst e1
 have hx:=x.2
 rcases h1 with h1 | ⟨b',o',e,h1⟩
 · have hz : l.length = 0:=by rw [h1]; rfl
   exact absurd hx (by omega)
 · injection e with e
   injection e with e1 e2
   subst e1
   subst e2
   have hl : (BQ l x.1).length = min 8 (l.length - 8 * x.1):=Ex l x.1
   refine ⟨by omega,_,_,by unfold Ds; rw [hl],.inr ⟨_,_,rfl,fun i hi => ?_⟩⟩
   obtain ⟨hlt,e⟩:=AaQ hi
   obtain ⟨q0,q1,q2⟩:=h1 _ hlt
   rw [e]
   rw [show o + 8 * x.1 * 3 + i * 3 = o + (8 * x.1 + i) * 3 by omega]
   exact ⟨q0,q1,q2⟩
def Ec (sb nb : Nat) (i : Nat) : Prop:=i = sb \/ i = nb
def Ud (m : Nat) (g : Nat) (lb : Array Value) (G : Nat -> Prop) (b o n : Nat) (w : World) : Prop:=
 SeqStopsK Fence.wide m Tryz.prog g lb (fun x : Ch n => #[Ds b o n x.1]) (A8 G) (fun xs => xs = Cy n) (fun pre => pre <+: Cy n) (Ao n) w
theorem TN (b o n c k : Nat) (hk : 8 * k < n) (hc : n <= c) (wx : World) : (Instr.slice 30 (.slice (some ⟨b,o,none⟩) n c) (some (.int .i64 (8 * (k : Int)))) none none).run Tryz.prog wx = .ok (.slice (some ⟨b,o + 8 * k * 3,none⟩) (n - 8 * k) (c - 8 * k)) wx:=by
 have:=run_slice_l (P:=Tryz.prog) (w:=wx) 30 (some ⟨b,o,none⟩) n c slPair .i64 (8 * (k : Int)) (by omega) (by omega)
 rw [JR] at this
 rw [this]
 show Result.ok (sliced (some ⟨b,o,none⟩) ((8 * (k : Int)).toNat) n c 3) wx = _
 unfold sliced
 have e : (8 * (k : Int)).toNat = 8 * k:=by omega
 rw [e,if_neg (by omega),Option.map_some,Addr.add_lit]
theorem XD (b o n c k : Nat) (hk : 8 * k < n) (hc : n <= c) (m : Int) (hm : m = 8 * (k : Int) + (min 8 (n - 8 * k) : Nat)) (wx : World) : (Instr.slice 30 (.slice (some ⟨b,o,none⟩) n c) (some (.int .i64 (8 * (k : Int)))) (some (.int .i64 m)) (some (.int .i64 m))).run Tryz.prog wx = .ok (Ds b o n k) wx:=by
 have:=run_slice_lhm (P:=Tryz.prog) (w:=wx) 30 (some ⟨b,o,none⟩) n c slPair .i64 .i64 .i64 (8 * (k : Int)) m m (by omega) (by omega) (by omega) (by omega)
 rw [JR] at this
 rw [this]
 show Result.ok (sliced (some ⟨b,o,none⟩) ((8 * (k : Int)).toNat) m.toNat m.toNat 3) wx = _
 unfold sliced Ds
 have e : (8 * (k : Int)).toNat = 8 * k:=by omega
 have e2 : m.toNat = 8 * k + min 8 (n - 8 * k):=by omega
 rw [e,e2,if_neg (by omega)]
 rw [show 8 * k + min 8 (n - 8 * k) - 8 * k = min 8 (n - 8 * k) by omega,Option.map_some,Addr.add_lit]
theorem XV (n k : Nat) (hk : 8 * k < n) : min (8 : Int) ((n - 8 * k : Nat) : Int) = ((min 8 (n - 8 * k) : Nat) : Int):=by omega
set_option maxRecDepth 100000 in
set_option maxHeartbeats 4000000 in
theorem Zu (m : Nat) (hm : 1 <= m) (y sb nb b o n c : Nat) (J Jx : List (Ch n) -> World -> Prop) (W : World)
 (hJ : AbidesFrom W.heap.size J)
 (hY : ∀ pre x W1,J pre W1 -> pre.length < Ao n -> YieldAt Fence.wide (m - 1) Tryz.prog y #[Ds b o n x.1] W1 fun e W' => (e = .returned (.bool true) /\ J (pre ++ [x]) W' /\ A8 (Ec sb nb) W1 W') \/ (e = .returned (.bool false) /\ Jx (pre ++ [x]) W'))
 (hv : W.heap[sb]? = some (.cells #[.slice (some ⟨b,o,none⟩) n c] 30 (0,0))) (hn : W.heap[nb]? = some (.cells #[.int .i64 8] 3 (0,0))) (hc : n <= c) (hmx : n <= 9223372036854775000) (h0 : J [] W) :
 CallsIn Fence.wide m Tryz.prog 174 #[.func (.yield y) #[] #[],.pointer (some ⟨sb,0,none⟩),.pointer (some ⟨nb,0,none⟩)] W fun e W' => (∃ v,e = .returned v) /\ ((∃ xs,xs = Cy n /\ J xs W') \/ (∃ pre,pre <+: Cy n /\ Jx pre W')):=by
 have HV0 : Hid (W.heap[sb]? = some (.cells #[.slice (some ⟨b,o,none⟩) n c] 30 (0,0)) /\ W.heap[nb]? = some (.cells #[.int .i64 8] 3 (0,0))):=⟨hv,hn⟩
 have HJ0 : Hid (J [] W):=h0
 clear h0 hv hn
 refine callsIn_of_wp Tryz.func174 rfl trivial ?_ rfl
 simp only [Tryz.ntmps174,List.size_toArray,List.length_cons,List.length_nil,Nat.reduceAdd,Nat.reduceSub,Array.replicate_succ,Array.replicate_zero,List.push_toArray,List.append_toArray,List.nil_append,List.cons_append]
 gi_wp2
 gi_loopw [4] (fun iv wr => ∃ k : Nat,8 * k <= n + 7 /\ iv = .int .i64 (8 * (k : Int)) /\ Hid (wr.heap[sb]? = some (.cells #[.slice (some ⟨b,o,none⟩) n c] 30 (0,0)) /\ wr.heap[nb]? = some (.cells #[.int .i64 8] 3 (0,0))) /\ Hid (J ((Cy n).take k) wr)) (fun iv _ => n + 8 - (intOf iv).toNat)
 case atStart => exact ⟨0,by omega,rfl,HV0,HJ0⟩
 case round =>
  obtain ⟨k,hk,rfl,HR,hj⟩:=hrel
  clear HV0 HJ0
  have s0 : wr.cell? ⟨sb,0,none⟩ = some (.slice (some ⟨b,o,none⟩) n c):=by rw [Ab HR.out.1]; rfl
  have n0 : wr.cell? ⟨nb,0,none⟩ = some (.int .i64 8):=by rw [Ab HR.out.2]; rfl
  by_cases hlt : 8 * k < n
  · have d0 : wr.drew.cell? ⟨sb,0,none⟩ = some (.slice (some ⟨b,o,none⟩) n c):=s0
    have d1 : wr.drew.cell? ⟨nb,0,none⟩ = some (.int .i64 8):=n0
    have hbl : Below wr.heap.size wr wr.drew:=Below.drew (Below.refl _ _)
    have hj1 : J ((Cy n).take k) wr.drew:=hJ _ _ _ none hj.out (Jo hbl none) (fun r e => by cases e)
    have hyy:=hY ((Cy n).take k) ⟨k,hlt⟩ _ hj1 (by rw [List.length_take,Ig]; unfold Ao; omega)
    rw [<- SK hlt] at hyy
    have HPX : Hid ((Cy n).take (k + 1) <+: Cy n):=List.take_prefix _ _
    have ht:=TN b o n c k hlt hc
    have hmn:=XV n k hlt
    have hcc:=XD b o n c k hlt hc _ rfl
    obtain ⟨e,he⟩ : ∃ e : Nat,min 8 (n - 8 * k) = e:=⟨_,rfl⟩
    have he8 : e <= 8:=by omega
    rw [he] at hcc hmn
    have he1 : 0 < e:=by omega
    have hmes : n + 8 - (intOf (.int .i64 (8 * (k : Int) + 8))).toNat < n + 8 - (intOf (.int .i64 (8 * (k : Int)))).toNat:=by simp [intOf]; omega
    clear hj1 hbl
    obtain ⟨fn,tmps,assign,body,hy,hRR⟩:=hyy
    gi_wp2
    gi_region
    gi_wp2
    refine hRR.mono ?_
    rintro e W3 (⟨rfl,hJ3,hk3⟩ | ⟨rfl,hJx3⟩)
    · have HR3 : Hid (W3.heap[sb]? = some (.cells #[.slice (some ⟨b,o,none⟩) n c] 30 (0,0)) /\ W3.heap[nb]? = some (.cells #[.int .i64 8] 3 (0,0))):=⟨(hk3 sb (.inl rfl)).trans HR.out.1,(hk3 nb (.inr rfl)).trans HR.out.2⟩
      have HJ3 : Hid (J ((Cy n).take (k + 1)) W3):=hJ3
      have e1 : W3.cell? ⟨nb,0,none⟩ = some (.int .i64 8):=by rw [Ab HR3.out.2]; rfl
      clear hJ3 hk3
      gi_wp2
      exact ⟨⟨k + 1,by omega,by go_num,HR3,HJ3⟩,hmes⟩
    · gi_wp2
      refine bodyPost_ret (results_none rfl _ _ _) rfl ?_
      exact ⟨⟨_,rfl⟩,.inr ⟨_,HPX.out,hJx3⟩⟩
  · have hal:=TS (n:=n) (k:=k) (by omega)
    rw [hal] at hj
    gi_wp2
    go_end0
    exact ⟨⟨_,rfl⟩,.inl ⟨_,rfl,hj.out⟩⟩
end
section
open Go.RowKit Go.Shelf Go.Maps Go.WideMaps
set_option maxRecDepth 100000 in
set_option maxHeartbeats 1000000 in
theorem PR {w : World} {b o n c : Nat} (hc : n <= c) (hmx : n <= 9223372036854775000) :
 Calls Tryz.prog 140 #[.slice (some ⟨b,o,none⟩) n c,.int .i64 8] w fun e w' => ∃ g lb,e = .returned (.func (.func g) #[] lb) /\ (∀ args w,(callFunc g args).run Tryz.prog w = .ok (.enter g args) w) /\
  (∀ m,1 <= m -> ∀ w'',A8 (Ec w.heap.size (w.heap.size + 1)) w' w'' -> w'.heap.size <= w''.heap.size -> Ud m g lb (Ec w.heap.size (w.heap.size + 1)) b o n w'') /\ w'.heap.size = w.heap.size + 2 /\ Below w.heap.size w w' /\ w'.heap[w.heap.size]? = some (.cells #[.slice (some ⟨b,o,none⟩) n c] 30 (0,0)) /\ w'.heap[w.heap.size + 1]? = some (.cells #[.int .i64 8] 3 (0,0)):=by
 have hmf : ∀ (fn : Fn) (first cap : Array Value) (w : World),(Instr.makeFunc fn first cap).run Tryz.prog w = .ok (.func fn first cap) w:=fun _ _ _ _ => rfl
 obtain ⟨W0,hW0⟩ : ∃ W0,(w.alloc (.cells #[.slice (some ⟨b,o,none⟩) n c] 30)).alloc (.cells #[.int .i64 8] 3) = W0:=⟨_,rfl⟩
 have hs0 : W0.heap.size = w.heap.size + 2:=by rw [<- hW0]; simp
 have hb1 : Below (w.alloc (.cells #[.slice (some ⟨b,o,none⟩) n c] 30)).heap.size (w.alloc (.cells #[.slice (some ⟨b,o,none⟩) n c] 30)) W0:=by rw [<- hW0]; exact (Below.refl _ _).alloc (Nat.le_refl _) _
 have hb0 : Below w.heap.size w W0:=((Below.refl _ w).alloc (Nat.le_refl _) _).trans (hb1.mono (by simp))
 have k0 : W0.heap[w.heap.size]? = some (.cells #[.slice (some ⟨b,o,none⟩) n c] 30 (0,0)):=(hb1.block _ (by simp)).trans (heap_alloc_new _ _)
 have k1 : W0.heap[w.heap.size + 1]? = some (.cells #[.int .i64 8] 3 (0,0)):=by
  have:=heap_alloc_new (w.alloc (.cells #[.slice (some ⟨b,o,none⟩) n c] 30)) (.cells #[.int .i64 8] 3)
  rw [hW0,World.size_alloc] at this
  exact this
 have key : ∀ m,1 <= m -> ∀ w'',A8 (Ec w.heap.size (w.heap.size + 1)) W0 w'' -> W0.heap.size <= w''.heap.size -> Ud m 174 #[.pointer (some ⟨w.heap.size,0,none⟩),.pointer (some ⟨w.heap.size + 1,0,none⟩)] (Ec w.heap.size (w.heap.size + 1)) b o n w'':=by
  intro m hm w'' hw hs y J Jx W hW hJ hJx hY h0
  have q0:=(hw w.heap.size (.inl rfl)).trans k0
  have q1:=(hw (w.heap.size + 1) (.inr rfl)).trans k1
  exact Zu m hm y w.heap.size (w.heap.size + 1) b o n c J Jx W hJ hY ((hW.block w.heap.size (by omega)).trans q0) ((hW.block (w.heap.size + 1) (by omega)).trans q1) hc hmx h0
 have n0 : W0.cell? ⟨w.heap.size + 1,0,none⟩ = some (.int .i64 8):=by rw [Ab k1]; rfl
 have HK:=hid key
 have HB:=hid hb0
 have HS:=hid hs0
 have HK0:=hid k0
 have HK1:=hid k1
 clear key hb0 hs0 hb1 k0 k1
 go_enter Tryz.func140,Tryz.ntmps140
 go_wp2
 go_ret
 exact ⟨_,_,rfl,enters_of Tryz.func174 (by kernel_rfl) rfl,HK.out,HS.out,HB.out,HK0.out,HK1.out⟩
theorem Fw {α : Type} (k D : Nat) (f : α -> Obj) (hf : ∀ s,(f s).isCells = true) : OwnFrom D (fun s W => W.heap[k]? = some (f s)):=fun s W W' row hs hg hr => by
 have hs : W.heap[k]? = some (f s):=hs
 show W'.heap[k]? = some (f s)
 rw [hg.block k (Ad hs) (fun e => ?_)]
 · exact hs
 · obtain ⟨_,o,h1,h2⟩:=hr k e.symm
   rw [hs] at h1
   injection h1 with h1
   rw [<- h1,hf] at h2
   cases h2
theorem Mu {m : Nat} {g : Operand} {pa : Array Tmp} {assign body : Code} {Q : Exit -> Act -> World -> Prop} {a : Act} {w w0 : World} (sx sb : Nat) (h1 : 1 <= m) {gf : Nat} {lb : Array Value} {G : Nat -> Prop} {b o n : Nat}
 (hg : a.eval g = .func (.func gf) #[] lb) (eg : ∀ args w,(callFunc gf args).run Tryz.prog w = .ok (.enter gf args) w)
 (hseq : Ud (m - 1) gf lb G b o n w0) (hb0 : Below w0.heap.size w0 w) (hG : ∀ k,G k -> k < w.heap.size) (hpa : pa.size = 1)
 (I : List (Ch n) -> World -> Prop) (hI : OwnFrom w.heap.size I) (h0 : I [] w)
 (hassign : ∀ (l : Nat) (x : Ch n) (W : World) (K : Act -> World -> Prop),K { tmps:=(a.tmps.setIfInBounds sx (Ds b o n x.1)).setIfInBounds sb (Ds b o n x.1),defers:=[] } W ->
   assign.wpIn (Fence.wide.inRound l) (m - 1 - 1) Tryz.prog (Exit.then K (fun _ _ _ => False)) { tmps:=(pa.zip #[Ds b o n x.1]).foldl (fun t (p,v) => t.setIfInBounds p v) a.tmps,defers:=[] } W)
 (hbody : ∀ (l : Nat) (pre : List (Ch n)) (x : Ch n) (W : World),I pre W -> pre.length < Ao n ->
   body.wpIn (Fence.wide.inRound l) (m - 1 - 1) Tryz.prog (ownPostG w.heap.size (A8 G) I (fun _ _ _ => False) (pre ++ [x]) W) { tmps:=(a.tmps.setIfInBounds sx (Ds b o n x.1)).setIfInBounds sb (Ds b o n x.1),defers:=[] } W)
 (hend : ∀ (D : Nat) (W : World),w.heap.size <= D -> I (Cy n) W -> W.heap[D]? = some (.deferred (some [])) -> Q .normal { a with defers:={ target:=.collected D,args:=#[] } :: a.defers } W) :
 (Code.rangeFunc g pa assign body).wp Tryz.prog Q a w:=by
 refine (wpIn_wide (n:=m)).1 ?_
 refine wpIn_rangeFunc_ownH rfl h1 (gf:=gf) (lb:=lb) hg trivial eg hseq (fun {A B C} => A8.trans) (fun W l o o' hl => A8.put hG W l o o' (by omega)) hb0 (fun _ => hpa.symm) I (fun _ _ _ => False) hI (fun _ _ _ _ _ hs _ _ => hs) h0
  (fun x a' W => a' = { tmps:=(a.tmps.setIfInBounds sx (Ds b o n x.1)).setIfInBounds sb (Ds b o n x.1),defers:=[] }) ?hAx ?assign ?body ?done ?stop
 case hAx =>
  rintro x a' _ W W' row h hg hr
  exact h
 case assign =>
  intro l pre x W K hi hK
  exact hassign l x W _ (hK _ _ (KeepsFrom.refl _ _) (A8.refl _ _) hi rfl)
 case body =>
  rintro l pre x a' W hl hr hi rfl hlt
  exact hbody l pre x W hi hlt
 case done =>
  rintro D xs W hD rfl hi hK
  exact hend D W hD hi hK
 case stop =>
  rintro D c pre W _ _ h _
  exact h.elim
end
section
open Go.RowKit Go.Shelf Go.Maps Go.WideMaps
attribute [local go_sem] Oper.semAt_some
def D8 (l : List Aa) : List UInt8:=As (Ao l.length) ++ (I7 (Dg l (Ao l.length)) ++ As l.length)
theorem LU (l : List Aa) (flt : List UInt8) : CX l flt = D8 l ++ (As flt.length ++ flt):=by
 unfold CX D8
 simp only [List.append_assoc]
def DN (l : List Aa) (pre : List (Ch l.length)) : List UInt8:=I7 (pre.map fun x => Ck l x.1)
theorem QG (l : List Aa) (pre : List (Ch l.length)) (x : Ch l.length) : DN l (pre ++ [x]) = DN l pre ++ (As (Ck l x.1).size ++ (Ck l x.1).data.toList):=by
 unfold DN
 rw [List.map_append]
 exact Pq _ _
theorem Sm (l : List Aa) : DN l (Cy l.length) = I7 (Dg l (Ao l.length)):=by
 unfold DN Dg
 rw [On l.length (Ck l)]
theorem SH {l : List Aa} (h : Az l) (pre : List (Ch l.length)) : (DN l pre).length <= 80 * pre.length:=by
 induction pre with
 | nil => simp [DN,I7]
 | cons x r ih =>
   have e : DN l (x :: r) = (As (Ck l x.1).size ++ (Ck l x.1).data.toList) ++ DN l r:=by simp [DN,I7]
   have h1:=Hy h x.1
   have h2:=Av (AK (n:=(Ck l x.1).size) (by omega))
   have h3 : (Ck l x.1).data.toList.length = (Ck l x.1).size:=by simp
   rw [e,List.length_append,List.length_append,List.length_cons]
   omega
theorem Sl {W : World} {b o c : Nat} {l : List Aa} (h : Aj W (.slice (some ⟨b,o,none⟩) l.length c) l) (x : Ch l.length) : W.cell? ⟨b,o + 8 * x.1 * 3,none⟩ = some (.string (Ck l x.1)):=by
 obtain ⟨hm,a',c',hv,h1⟩:=h
 injection hv with e1 e2 e3
 subst e1
 have hx:=x.2
 rcases h1 with h1 | ⟨b',o',e,h1⟩
 · have hz : l.length = 0:=by rw [h1]; rfl
   exact absurd hx (by omega)
 · injection e with e
   injection e with e1 e2
   subst e1
   subst e2
   have:=(h1 _ hx).1
   rw [show o + 8 * x.1 * 3 = o + (8 * x.1) * 3 by omega,this]
   unfold Ck
   simp [List.getD,hx]
set_option maxHeartbeats 4000000 in
set_option maxRecDepth 100000 in
theorem QZ {w : World} {b o c : Nat} {l : List Aa} (h : Aj w (.slice (some ⟨b,o,none⟩) l.length c) l) (hf : Az l) (hc : l.length <= c) (hN : l.length <= 3518437208780) (h1 : 1 <= l.length) :
 Calls Tryz.prog 175 #[.slice (some ⟨b,o,none⟩) l.length c] w fun e w' => e = .returned (.string ⟨(D8 l).toArray⟩) /\ Below w.heap.size w w':=by
 refine (callsIn_wide (n:=6)).1 ?_
 refine callsIn_of_wp_marks Tryz.func175 rfl trivial ?_ rfl
 simp only [Tryz.ntmps175,List.size_toArray,List.length_cons,List.length_nil,Nat.reduceAdd,Nat.reduceSub,Array.replicate_succ,Array.replicate_zero,List.push_toArray,List.append_toArray,List.nil_append,List.cons_append]
 refine wpIn_wide.2 ?_
 obtain ⟨W0,hW0⟩ : ∃ W0,(w.alloc (.cells #[.int .i64 0] 3)).alloc (.cells #[.pointer none,.slice none 0 0] 182) = W0:=⟨_,rfl⟩
 have hs0 : W0.heap.size = w.heap.size + 2:=by rw [<- hW0]; simp
 have hb1 : Below (w.alloc (.cells #[.int .i64 0] 3)).heap.size (w.alloc (.cells #[.int .i64 0] 3)) W0:=by rw [<- hW0]; exact (Below.refl _ _).alloc (Nat.le_refl _) _
 have hb0 : Below w.heap.size w W0:=((Below.refl _ w).alloc (Nat.le_refl _) _).trans (hb1.mono (by simp))
 have k0 : W0.heap[w.heap.size]? = some (.cells #[.int .i64 0] 3 (0,0)):=(hb1.block _ (by simp)).trans (heap_alloc_new _ _)
 have k1 : AR W0 (w.heap.size + 1) (w.heap.size + 1) []:=by
  have:=AR.new (w.alloc (.cells #[.int .i64 0] 3))
  rw [hW0,World.size_alloc] at this
  exact this
 have HB0:=hid hb0
 have HK0:=hid k0
 have HK1:=hid k1
 have HW : Hid (∀ w',Below w.heap.size w w' -> Aj w' (.slice (some ⟨b,o,none⟩) l.length c) l):=fun w' hb => h.below hb
 have hbw : b < w.heap.size:=by
  obtain ⟨b',o',e,q,_⟩:=h.at (show 0 < l.length from h1)
  injection e with e
  injection e with e1 _
  subst e1
  exact World.block_lt_of_cell? w ⟨_,_,none⟩ q
 clear hb0 k0 k1 h hb1
 go_wp2_with fail
 refine (PR hc (by omega)).mono ?_
 rintro e wA ⟨g,lb,rfl,eg,hgi,hsA,bA,g0,g1⟩
 have hseq:=hgi 5 (by omega) wA (A8.refl _ _) (Nat.le_refl _)
 have HA0:=hid ((bA.block _ (Ad HK0.out)).trans HK0.out)
 have HA1:=hid (HK1.out.kept2 bA)
 have HBA:=hid (HB0.out.trans (bA.mono (by omega)))
 have HG0:=hid g0
 have HG1:=hid g1
 have HG : ∀ k,Ec W0.heap.size (W0.heap.size + 1) k -> k < wA.heap.size:=fun k hk => by unfold Ec at hk; omega
 clear hgi g0 g1 bA HB0 HK0 HK1
 go_wp2_with fail
 refine Mu (m:=6) 8 5 (by omega) rfl eg hseq (Below.refl _ _) HG rfl
  (fun pre W => W.heap[w.heap.size]? = some (.cells #[.int .i64 (pre.length : Nat)] 3 (0,0)) /\ AR W (w.heap.size + 1) (w.heap.size + 1) (DN l pre) /\ W.heap[W0.heap.size]? = some (.cells #[.slice (some ⟨b,o,none⟩) l.length c] 30 (0,0)) /\ W.heap[W0.heap.size + 1]? = some (.cells #[.int .i64 8] 3 (0,0)) /\ Below w.heap.size w W)
  (OwnFrom.and (Fw _ _ (fun (pre : List (Ch l.length)) => Obj.cells #[.int .i64 (pre.length : Nat)] 3 (0,0)) (fun _ => rfl)) (OwnFrom.and (AR.ownFrom _ _ _ (DN l)) (OwnFrom.and (Fw _ _ (fun _ => _) (fun _ => rfl)) (OwnFrom.and (Fw _ _ (fun _ => _) (fun _ => rfl)) (ownFrom_below (Nat.le_refl _) (by omega))))))
  ⟨HA0.out,HA1.out,HG0.out,HG1.out,HBA.out⟩
  ?assign ?body ?rest
 case assign =>
  intro l' x W K hK
  unfold Ds at *
  gi_wp2
  exact hK
 case body =>
  rintro l' pre x W ⟨c0,t0,g0,g1,hB⟩ hlt
  have hpl : pre.length <= 439804651099:=by unfold Ao at hlt; omega
  have hbW : b ≠ w.heap.size:=by omega
  have d0 : W.cell? ⟨w.heap.size,0,none⟩ = some (.int .i64 (pre.length : Nat)):=by rw [Ab c0]; rfl
  have f0 : W.frozen? ⟨w.heap.size,0,none⟩ = false:=Ag c0 0
  have q0:=Sl (HW.out W hB) x
  have hx:=x.2
  have hfs:=Hy hf x.1
  have HSN:=hid (QG l pre x)
  have hfl:=SH hf pre
  unfold Ds
  obtain ⟨e,he⟩ : ∃ e : Nat,min 8 (l.length - 8 * x.1) = e:=⟨_,rfl⟩
  have he1 : 0 < e:=by omega
  rw [he]
  generalize Ck l x.1 = K at *
  generalize o + 8 * x.1 * 3 = o1 at *
  have hT:=fun w => IZ K (by omega) w
  have hzT : (As K.size ++ K.data.toList).length <= 74:=by
   have h2:=Av (AK (n:=K.size) (by omega))
   have h3 : K.data.toList.length = K.size:=by simp
   rw [List.length_append]; omega
  generalize As K.size ++ K.data.toList = T at *
  clear he hx
  gi_wp2_with fail
  have bl1 : Below w.heap.size W (W.setCell ⟨w.heap.size,0,none⟩ (.int .i64 ((pre.length : Int) + 1))):=(Below.refl _ W).setCell (p:=⟨w.heap.size,0,none⟩) (Nat.le_refl _) _
  have ko1 : KeepsOthers W (W.setCell ⟨w.heap.size,0,none⟩ (.int .i64 ((pre.length : Int) + 1))):=KeepsOthers.setCell _ _ _
  have sb1 : ∀ k,k ≠ w.heap.size -> (W.setCell ⟨w.heap.size,0,none⟩ (.int .i64 ((pre.length : Int) + 1))).heap[k]? = W.heap[k]?:=fun k hk => Cr hk
  have cb1 : (W.setCell ⟨w.heap.size,0,none⟩ (.int .i64 ((pre.length : Int) + 1))).heap[w.heap.size]? = some (.cells #[.int .i64 ((pre.length : Int) + 1)] 3 (0,0)):=by
   exact Go.heap_setCell_same W w.heap.size 0 _ _ _ c0
  generalize W.setCell ⟨w.heap.size,0,none⟩ (.int .i64 ((pre.length : Int) + 1)) = W1 at *
  have T1:=hid (t0.far (w':=W1) (fun k hk _ => sb1 k (by omega)))
  have B1:=hid (hB.trans bl1)
  refine ⟨trivial,(CallsIn.inRound l' (callsIn_wide.2 (hT _))).mono ?_⟩
  rintro e w2 ⟨rfl,b2⟩
  have T2:=hid (T1.out.kept2 b2)
  have B2:=hid (B1.out.trans (b2.mono B1.out.size))
  have hlt0:=Ad c0
  have hs1:=bl1.size
  have hs2:=b2.size
  gi_wp2_with fail
  refine ⟨trivial,(CallsIn.inRound l' (callsIn_wide.2 (Cf T2.out _ (by rw [A0]; omega) (by omega)))).mono ?_⟩
  rintro e w3 ⟨rfl,t3,b3,k3⟩
  have kb:=(BV.of_below b2).trans k3
  have ko:=ko1.trans (kb.others (Nat.le_trans hs2 b3.size))
  have g0':=kb.cells ((sb1 _ (by omega)).trans g0) (by decide) (by decide)
  have g1':=kb.cells ((sb1 _ (by omega)).trans g1) (by decide) (by decide)
  have c0':=kb.cells cb1 (by decide) (by decide)
  have B3:=hid (B2.out.trans (b3.mono (by omega)))
  gi_wp2
  refine ⟨ko.from _,?_,?_,?_,g0',g1',B3.out⟩
  · rintro k (rfl | rfl)
    · rw [g0',g0]
    · rw [g1',g1]
  · rw [c0']
    simp
  · show AR w3 _ _ (DN l (pre ++ [x]))
    rw [HSN.out]
    exact t3
 case rest =>
  rintro D W hD ⟨c0,t0,g0,g1,hB⟩ hK
  rw [Ig] at c0
  rw [Sm] at t0
  have hp2 : Ao l.length <= 439804651099:=by unfold Ao; omega
  have hfl:=Iq hf (Ao l.length)
  have hP1:=fun w => F2 (Ao l.length) (AK (by omega)) w
  have hP2:=fun w => F2 l.length (AK (by omega)) w
  have z1:=Av (AK (n:=Ao l.length) (by omega))
  have z2:=Av (AK (n:=l.length) (by omega))
  have d0 : W.cell? ⟨w.heap.size,0,none⟩ = some (.int .i64 (Ao l.length : Nat)):=by rw [Ab c0]; rfl
  have HE : Hid ((⟨(D8 l).toArray⟩ : ByteArray) = ⟨(As (Ao l.length)).toArray⟩ ++ ⟨(I7 (Dg l (Ao l.length))).toArray⟩ ++ ⟨(As l.length).toArray⟩):=by
   show _ = _
   rw [U4,U4,List.append_assoc]
   rfl
  have hlt0:=Ad c0
  generalize I7 (Dg l (Ao l.length)) = F at *
  generalize Ao l.length = p at *
  obtain ⟨A1,eA1⟩ : ∃ A : ByteArray,(⟨(As p).toArray⟩ : ByteArray) = A:=⟨_,rfl⟩
  obtain ⟨A2,eA2⟩ : ∃ A : ByteArray,(⟨(As l.length).toArray⟩ : ByteArray) = A:=⟨_,rfl⟩
  obtain ⟨A3,eA3⟩ : ∃ A : ByteArray,(⟨F.toArray⟩ : ByteArray) = A:=⟨_,rfl⟩
  have y1 : A1.size <= 10:=by rw [<- eA1,A0]; exact z1
  have y2 : A2.size <= 10:=by rw [<- eA2,A0]; exact z2
  have y3 : A3.size <= 80 * p:=by rw [<- eA3,A0]; exact hfl
  have HE2:=HE.out
  simp only [eA1,eA2,eA3] at HE2 hP1 hP2
  have HE3:=hid HE2
  have w1 : ∀ m : Int,m = (p : Int) -> IntKind.u64.wrap m = (p : Int):=by rintro m rfl; rw [IntKind.wrap_u64]; omega
  have w2 : ∀ m : Int,m = (l.length : Int) -> IntKind.u64.wrap m = (l.length : Int):=by rintro m rfl; rw [IntKind.wrap_u64]; omega
  have n1 : ¬ 9223372036854775807 < A1.size + A3.size:=by omega
  have n2 : ¬ 9223372036854775807 < A1.size + A3.size + A2.size:=by omega
  have T0:=hid t0
  have B0:=hid hB
  have HKD:=hid hK
  clear HE HE2 t0 hB hK z1 z2
  go_wp2_with fail
  refine (hP1 _).mono ?_
  rintro e w5 ⟨rfl,b5⟩
  have T5:=hid (T0.out.kept2 b5)
  have B5:=hid (B0.out.trans (b5.mono B0.out.size))
  have D5:=hid ((b5.block _ (Ad HKD.out)).trans HKD.out)
  have hs5:=b5.size
  clear b5
  go_wp2_with fail
  refine (F6 T5.out (by omega)).mono ?_
  rintro e w6 ⟨rfl,b6,k6⟩
  rw [eA3]
  have B6:=hid (B5.out.trans (b6.mono (by omega)))
  have D6:=hid (k6 _ _ D5.out (fun _ _ _ h => by cases h))
  clear b6 k6
  go_wp2_with fail
  refine (hP2 _).mono ?_
  rintro e w7 ⟨rfl,b7⟩
  have B7:=hid (B6.out.trans (b7.mono B6.out.size))
  have D7:=hid ((b7.block _ (Ad D6.out)).trans D6.out)
  clear b7
  go_wp2
  refine ⟨by simp,.inl ⟨_,_,rfl,run_takeDeferred D7.out,?_⟩⟩
  exact ⟨_,results_tmp rfl _ _ _,by rw [HE3.out]; rfl,B7.out.trans (belowK_b (w:=w) (Nat.le_refl _) _ D _ _ (by omega) D7.out rfl rfl)⟩
end
section
open Go.RowKit
theorem Y0 (n : Nat) : min ((n : Int) + 8) 8192 = ((min (n + 8) 8192 : Nat) : Int):=by omega
theorem WG (l : List Aa) : Oj (Ef l) ((min (l.length + 8) 8192 : Nat) : Int) = ⟨(BM l).toArray⟩:=by
 unfold Oj
 rw [if_pos (by omega)]
 unfold BM
 rw [Int.toNat_natCast]
 rfl
set_option maxHeartbeats 2000000 in
set_option maxRecDepth 100000 in
theorem Qq {w : World} {a : Option Addr} {c : Nat} {l : List Aa} (h : Aj w (.slice a l.length c) l) (hf : Az l) (hN : l.length <= 3518437208780) :
 Calls Tryz.prog 176 #[.slice a l.length c] w fun e w' => e = .returned (.string ⟨(BM l).toArray⟩) /\ Below w.heap.size w w':=by
 obtain ⟨i0,hi,hz0,hz1,hz2⟩:=info_parts infoStr6
 have H:=hid h
 have HF:=hid hf
 have HB0:=hid (Below.refl w.heap.size w)
 clear h hf
 go_enter Tryz.func176,Tryz.ntmps176
 go_wp2_with (at_make; go_loud (refine wpList_make_own w rfl _ _ 52 rfl w.heap.size 9 i0 (.string ⟨#[]⟩) 1 Tryz.underlying52 hi hz0 hz1 .i64 .i64 _ l.length rfl rfl rfl ?m1 ?m2 ?m3 ?_))
 case m1 => rw [hz2]; omega
 case m2 => unfold maxLen; omega
 case m3 => omega
 intro w0 hown hgrow
 have Hb0:=hid (HB0.out.grown hgrow (by omega) (fun j hj => by cases hj))
 clear hgrow HB0
 go_wp2
 go_loopw [3,13] (fun kv iv wr => ∃ i : Nat,i <= l.length /\ iv = .int .i64 (i : Int) /\ wr.ownsRow w.heap.size 9 1 kv i (S0 (Ef (l.take i))) /\ Hid (Below w.heap.size w wr)) (fun _ iv _ => l.length - (intOf iv).toNat)
 case atStart => exact ⟨0,Nat.zero_le _,rfl,hown,Hb0.out⟩
 case round =>
  clear Hb0 hown
  obtain ⟨i,hil,rfl,hown,HI⟩:=hrel
  obtain ⟨ka,kc,rfl⟩:=An hown
  by_cases hlt : i < l.length
  · obtain ⟨b,o,rfl,q0,q1,q2⟩:=H.out.in HI.out hlt
    have HKN:=hid (WU hlt)
    have hmeas : l.length - (intOf (.int .i64 ((i : Int) + 1))).toNat < l.length - (intOf (.int .i64 (i : Int))).toNat:=by simp [intOf]; omega
    generalize l[i] = X at *
    obtain ⟨xk,xv,xg⟩:=X
    simp only at q0 q1 q2 HKN
    have hB1:=hid (HI.out.alloc HI.out.size (.cells #[.string xk,.string xv,.bool xg] 57))
    have hows:=hown.alloc (.cells #[.string xk,.string xv,.bool xg] 57)
    have hws:=HI.out.size
    go_wp2_with (at_builtin; go_loud (refine wpList_append_own _ rfl (.tmp 17) (.tmp 20) 52 rfl w.heap.size 9 i0 (.string ⟨#[]⟩) 1 16 Tryz.underlying52 hi hz0 hz1 hz2 rfl (by decide) _ _ _ rfl (hows.alloc _) ⟨wr.heap.size + 1,0,none⟩ 1 1 [.string xk] rfl rfl ?a3 (ZO xk) ?a4 ?a5 ?a6 ?_))
    case a3 =>
     have hct:=Wr (wr.alloc (.cells #[.string xk,.string xv,.bool xg] 57)) xk 9
     rw [World.size_alloc] at hct
     exact hct
    case a4 => unfold maxLen; omega
    case a5 => omega
    case a6 => first | omega | (simp; omega)
    intro v' w2 hown' hgrow _
    have hb2:=hid ((hB1.out.alloc hB1.out.size _).grown hgrow (by simp; omega) (fun j hj => (hows.lt j hj).1))
    clear hgrow hows
    go_wp2
    go_roundw
    case rel => exact ⟨i + 1,by omega,by go_num,by rw [HKN.out]; exact hown',hb2.out⟩
    case measure => exact hmeas
  · obtain rfl : i = l.length:=by omega
    rw [List.take_length] at hown
    have hkz : ∀ j,((Ef l).getD j ByteArray.empty).size <= 140737488351232:=fun j => by
     by_cases hj : j < l.length
     · have e : (Ef l).getD j ByteArray.empty = l[j].key:=by simp [Ef,List.getD,hj]
       rw [e]
       have:=((Cj _).1 (HF.out _ (List.getElem_mem hj))).2.1
       omega
     · have e : (Ef l).getD j ByteArray.empty = ByteArray.empty:=by simp [Ef,List.getD,Nat.le_of_not_lt hj]
       rw [e]; exact Nat.zero_le _
    have hks : (Ef l).length = l.length:=by simp [Ef]
    have how : wr.ownsRow w.heap.size 9 1 (.slice ka (Ef l).length kc) (Ef l).length (S0 (Ef l)):=by rw [hks]; exact hown
    obtain ⟨ka',kc',hkv,hk6⟩:=YX how hkz (by omega)
    injection hkv with hk1 hk2 hk3
    subst hk1
    subst hk3
    have HMK:=hid (Y3 ka kc (Ef l) _ hk6.1 (fun j => by have:=hkz j; unfold maxLen; omega) ((min (l.length + 8) 8192 : Nat) : Int) (Zl (by omega)))
    rw [WG,hks] at HMK
    have hmn:=Y0 l.length
    generalize min (l.length + 8) 8192 = M at *
    have HB:=hid HI.out
    clear hown how hk6 HI hkz
    go_wp2_with fail
    refine HMK.out.mono ?_
    rintro e w5 ⟨rfl,b5⟩
    have HB5:=hid (HB.out.trans (b5.mono HB.out.size))
    clear b5
    go_wp2
    go_ret
    exact ⟨rfl,HB5.out⟩
end
section
open Go.RowKit Go.Shelf Go.Maps Go.WideMaps
attribute [local go_sem] Oper.semAt_some
def DX (l : List Aa) (pre : List (Ch l.length)) : List UInt8:=A6 (pre.map fun x => AS (BQ l x.1))
theorem Qo (l : List Aa) (pre : List (Ch l.length)) (x : Ch l.length) : DX l (pre ++ [x]) = DX l pre ++ Ai (AS (BQ l x.1)):=by
 unfold DX
 rw [List.map_append]
 exact IR _ _
theorem Tq (l : List Aa) : DX l (Cy l.length) = A6 (AI l (Ao l.length)):=by
 unfold DX AI
 rw [On l.length (fun i => AS (BQ l i))]
theorem VJ {xs : List Aa} (h : Az xs) (h8 : xs.length <= 8) : (Ai (AS xs)).length <= 70100:=by
 have h1:=JS h h8
 have h2:=Fu (Jj h h8)
 omega
theorem Re {l : List Aa} (h : Az l) (pre : List (Ch l.length)) : (DX l pre).length <= 70100 * pre.length:=by
 induction pre with
 | nil => simp [DX,A6]
 | cons x r ih =>
   have e : DX l (x :: r) = Ai (AS (BQ l x.1)) ++ DX l r:=by simp [DX,A6]
   have h1:=VJ (Fl h x.1) (by rw [Ex]; omega)
   rw [e,List.length_append,List.length_cons]
   omega
theorem Aap (b o : Nat) (l : List Aa) (i : Nat) : Ds b o l.length i = .slice (some ⟨b,o + 8 * i * 3,none⟩) (BQ l i).length (BQ l i).length:=by
 unfold Ds
 rw [Ex]
set_option maxHeartbeats 4000000 in
set_option maxRecDepth 100000 in
theorem Xs {w : World} {a : Option Addr} {c : Nat} {l : List Aa} (h : Aj w (.slice a l.length c) l) (hc : l.length <= c) (hN : l.length <= 3518437208780) :
 Calls Tryz.prog 141 #[.slice a l.length c] w fun e w' => e = .returned (.tuple #[.string (C3 l),.int .i64 (Er l : Nat)]) /\ Below w.heap.size w w':=by
 have hchk:=Lh h
 by_cases hE : De l = 0
 · obtain ⟨hne,hrise,hf⟩:=GP.1 hE
   have h1 : 1 <= l.length:=List.length_pos_iff.2 hne
   obtain ⟨b,o,rfl,_⟩:=h.at (show 0 < l.length from h1)
   have HW : Hid (∀ w',Below w.heap.size w w' -> Aj w' (.slice (some ⟨b,o,none⟩) l.length c) l):=fun w' hb => h.below hb
   have hb0 : Ii ⟨#[]⟩ l = 0:=(K9 l).2 ⟨hrise,hf⟩
   have HBE : Hid (Er l = if 1048576 < (CX l (BM l)).length then 2 else 0):=by
    show _ = _
    unfold Er
    rw [if_neg hne,hb0,if_neg (by simp)]
   have hfl:=Iq hf (Ao l.length)
   have hzF : (BM l).length <= 8192:=by unfold BM; rw [Fi]; omega
   have hp2 : Ao l.length <= 439804651099:=by unfold Ao; omega
   have z1:=Av (AK (n:=Ao l.length) (by omega))
   have z2:=Av (AK (n:=l.length) (by omega))
   have z3:=Av (AK (n:=(BM l).length) (by omega))
   have hzH : (D8 l).length <= 20 + 80 * Ao l.length:=by
    unfold D8
    rw [List.length_append,List.length_append]
    omega
   have hFT : Hid (CX l (BM l) = D8 l ++ (As (BM l).length ++ BM l)):=LU l (BM l)
   have hT:=fun w => IZ ⟨(BM l).toArray⟩ (by rw [A0]; omega) w
   obtain ⟨FL,eFL⟩ : ∃ A : ByteArray,(⟨(BM l).toArray⟩ : ByteArray) = A:=⟨_,rfl⟩
   have dFL : FL.data.toList = BM l:=by rw [<- eFL]
   have sFL : FL.size = (BM l).length:=by rw [<- eFL,A0]
   rw [eFL] at hT
   rw [dFL,sFL] at hT
   obtain ⟨TF,eTF⟩ : ∃ A : ByteArray,(⟨(As (BM l).length ++ BM l).toArray⟩ : ByteArray) = A:=⟨_,rfl⟩
   rw [eTF] at hT
   obtain ⟨HD,eHD⟩ : ∃ A : ByteArray,(⟨(D8 l).toArray⟩ : ByteArray) = A:=⟨_,rfl⟩
   have eFT : HD ++ TF = ⟨(CX l (BM l)).toArray⟩:=by rw [hFT.out,<- eHD,<- eTF,U4]
   have sTF : TF.size <= 8202:=by rw [<- eTF,A0,List.length_append]; omega
   have sHD : HD.size <= 20 + 80 * Ao l.length:=by rw [<- eHD,A0]; exact hzH
   have n1 : ¬ 9223372036854775807 < HD.size + TF.size:=by omega
   have hhd:=fun w' hb => QZ (HW.out w' hb) hf hc hN h1
   have hft:=fun w' hb => Qq (HW.out w' hb) hf hN
   rw [eHD] at hhd
   rw [eFL] at hft
   have HCH:=hid hchk
   rw [hE] at HCH
   obtain ⟨FT,eW⟩ : ∃ A : ByteArray,HD ++ TF = A:=⟨_,rfl⟩
   have zFT : FT.size = (CX l (BM l)).length:=by rw [<- eW,eFT,A0]
   have dFT : FT.data.toList = CX l (BM l):=by rw [<- eW,eFT]
   have n2 : ¬ 9223372036854775807 < FT.size:=by rw [<- eW,ByteArray.size_append]; exact n1
   clear hchk h eFT n1
   refine (callsIn_wide (n:=6)).1 ?_
   refine callsIn_of_wp_marks Tryz.func141 rfl trivial ?_ rfl
   simp only [Tryz.ntmps141,List.size_toArray,List.length_cons,List.length_nil,Nat.reduceAdd,Nat.reduceSub,Array.replicate_succ,Array.replicate_zero,List.push_toArray,List.append_toArray,List.nil_append,List.cons_append]
   refine wpIn_wide.2 ?_
   go_wp2_with fail
   refine HCH.out.mono ?_
   rintro e w2 ⟨rfl,b2⟩
   have B2:=hid b2
   clear b2 HCH
   go_wp2_with fail
   refine (hhd w2 B2.out).mono ?_
   rintro e w3 ⟨rfl,b3⟩
   have B3:=hid (B2.out.trans (b3.mono B2.out.size))
   clear b3 hhd
   go_wp2_with fail
   refine (hft w3 B3.out).mono ?_
   rintro e w4 ⟨rfl,b4⟩
   have B4:=hid (B3.out.trans (b4.mono B3.out.size))
   clear b4 hft
   go_wp2_with fail
   refine (hT w4).mono ?_
   rintro e w5 ⟨rfl,b5⟩
   have B5:=hid (B4.out.trans (b5.mono B4.out.size))
   clear b5 hT
   go_wp2_with fail
   by_cases hl : FT.size <= 1048576
   · have hwr:=NC FT hl w5
     rw [dFT] at hwr
     have HB0 : Hid (Er l = 0 /\ C3 l = ⟨(A6 (AI l (Ao l.length)) ++ Ai (CX l (BM l))).toArray⟩):=by
      have e1 : Er l = 0:=by rw [HBE.out,if_neg (by omega)]
      exact ⟨e1,by unfold C3; rw [if_pos e1]; rfl⟩
     have hfew : l.length <= 8388608:=by
      obtain ⟨flt,hok,_⟩:=PO HB0.out.1
      exact VC hok
     have hfr:=Fu (l:=CX l (BM l)) (by omega)
     refine hwr.mono ?_
     rintro e w6 ⟨rfl,b6⟩
     have B6:=hid (B5.out.trans (b6.mono B5.out.size))
     obtain ⟨FR,eFR⟩ : ∃ A : ByteArray,(⟨(Ai (CX l (BM l))).toArray⟩ : ByteArray) = A:=⟨_,rfl⟩
     have dFR : FR.data.toList = Ai (CX l (BM l)):=by rw [<- eFR]
     have zFR : FR.size <= 1048590:=by rw [<- eFR,A0]; omega
     rw [eFR]
     clear b6 hwr eFR hfr
     generalize Ai (CX l (BM l)) = FRL at *
     have k0:=AR.new w6
     have bL:=(Below.refl w6.heap.size w6).alloc (Nat.le_refl _) (.cells #[.pointer none,.slice none 0 0] 182)
     have h6s : (w6.alloc (.cells #[.pointer none,.slice none 0 0] 182)).heap.size = w6.heap.size + 1:=by simp
     have K0:=hid k0
     have B7:=hid (B6.out.trans (bL.mono B6.out.size))
     have H6S:=hid h6s
     have hs6:=B6.out.size
     clear k0 bL h6s
     go_wp2_with fail
     generalize w6.alloc (.cells #[.pointer none,.slice none 0 0] 182) = w7 at *
     generalize w6.heap.size = lo at *
     have hs7:=H6S.out
     refine (PR hc (by omega)).mono ?_
     rintro e wA ⟨g,lb,rfl,eg,hgi,hsA,bA,g0,g1⟩
     have hseq:=hgi 5 (by omega) wA (A8.refl _ _) (Nat.le_refl _)
     have HA1:=hid (K0.out.kept2 bA)
     have HBA:=hid (B7.out.trans (bA.mono (by omega)))
     have HG0:=hid g0
     have HG1:=hid g1
     have HG : ∀ k,Ec w7.heap.size (w7.heap.size + 1) k -> k < wA.heap.size:=fun k hk => by unfold Ec at hk; omega
     clear hgi g0 g1 bA K0
     go_wp2_with fail
     refine Mu (m:=6) 31 8 (by omega) rfl eg hseq (Below.refl _ _) HG rfl
      (fun pre W => AR W lo lo (DX l pre) /\ W.heap[w7.heap.size]? = some (.cells #[.slice (some ⟨b,o,none⟩) l.length c] 30 (0,0)) /\ W.heap[w7.heap.size + 1]? = some (.cells #[.int .i64 8] 3 (0,0)) /\ Below w.heap.size w W)
      (OwnFrom.and (AR.ownFrom _ _ _ (DX l)) (OwnFrom.and (Fw _ _ (fun _ => _) (fun _ => rfl)) (OwnFrom.and (Fw _ _ (fun _ => _) (fun _ => rfl)) (ownFrom_below (Nat.le_refl _) (by omega)))))
      ⟨HA1.out,HG0.out,HG1.out,HBA.out⟩
      ?assign ?body ?rest
     case assign =>
      intro l' x W K hK
      unfold Ds at *
      gi_wp2
      exact hK
     case body =>
      rintro l' pre x W ⟨t0,g0,g1,hB⟩ hlt
      have hpl : pre.length <= 1048577:=by unfold Ao at hlt; omega
      have hx:=x.2
      have hPf:=Fl hf x.1
      have hP8 : (BQ l x.1).length <= 8:=by rw [Ex]; omega
      have hread:=Um (HW.out W hB) x
      rw [Aap] at hread ⊢
      have HSN:=hid (Qo l pre x)
      have hfl2:=Re hf pre
      have hz70:=VJ hPf hP8
      have hbs:=Jj hPf hP8
      have hbo:=Rf hread hPf hP8
      generalize BQ l x.1 = P at *
      generalize o + 8 * x.1 * 3 = o1 at *
      have hwp:=fun w => NC ⟨(AS P).toArray⟩ (by rw [A0]; exact hbs) w
      generalize AS P = BL at *
      obtain ⟨BB,eBB⟩ : ∃ A : ByteArray,(⟨BL.toArray⟩ : ByteArray) = A:=⟨_,rfl⟩
      have dBB : BB.data.toList = BL:=by rw [<- eBB]
      rw [eBB] at hbo
      simp only [eBB] at hwp
      generalize Ai BL = FB at *
      have hlt0:=t0.lt
      clear hread hx eBB dBB hbs
      gi_wp2_with fail
      refine ⟨trivial,(CallsIn.inRound l' (callsIn_wide.2 hbo)).mono ?_⟩
      rintro e w8 ⟨rfl,b8⟩
      have T8:=hid (t0.kept2 b8)
      have B8:=hid (hB.trans (b8.mono hB.size))
      have hs8:=b8.size
      gi_wp2_with fail
      refine ⟨trivial,(CallsIn.inRound l' (callsIn_wide.2 (hwp _))).mono ?_⟩
      rintro e w9 ⟨rfl,b9⟩
      have T9:=hid (T8.out.kept2 b9)
      have B9:=hid (B8.out.trans (b9.mono B8.out.size))
      have hs9:=b9.size
      gi_wp2_with fail
      refine ⟨trivial,(CallsIn.inRound l' (callsIn_wide.2 (Cf T9.out _ (by rw [A0]; omega) (by omega)))).mono ?_⟩
      rintro e w10 ⟨rfl,t10,b10,k10⟩
      have kb:=((BV.of_below b8).trans (BV.of_below b9)).trans k10
      have ko:=kb.others (Nat.le_trans (Nat.le_trans hs8 hs9) b10.size)
      have g0':=kb.cells g0 (by decide) (by decide)
      have g1':=kb.cells g1 (by decide) (by decide)
      have B10:=hid (B9.out.trans (b10.mono (by omega)))
      gi_wp2
      refine ⟨ko.from _,?_,?_,g0',g1',B10.out⟩
      · rintro k (rfl | rfl)
        · rw [g0',g0]
        · rw [g1',g1]
      · show AR w10 _ _ (DX l (pre ++ [x]))
        rw [HSN.out]
        exact t10
     case rest =>
      rintro D W hD ⟨t0,g0,g1,hB⟩ hK
      rw [Tq] at t0
      have hfs:=JT hf (Ao l.length)
      have hpp : Ao l.length <= 1048577:=by unfold Ao; omega
      have HB0':=HB0
      generalize A6 (AI l (Ao l.length)) = FSx at *
      have hlt0:=t0.lt
      have T0:=hid t0
      have B0:=hid hB
      have HKD:=hid hK
      clear t0 hB hK g0 g1
      go_wp2_with fail
      refine (Cf T0.out FR (by omega) (by omega)).mono ?_
      rintro e w11 ⟨rfl,t11,b11,k11⟩
      rw [dFR] at t11
      have T11:=hid t11
      have B11:=hid (B0.out.trans (b11.mono (by omega)))
      have D11:=hid (k11 _ _ HKD.out (fun _ _ _ h => by cases h))
      have hs11:=b11.size
      clear t11 b11 k11
      go_wp2_with fail
      refine (F6 T11.out (by omega)).mono ?_
      rintro e w12 ⟨rfl,b12,k12⟩
      have B12:=hid (B11.out.trans (b12.mono (by omega)))
      have D12:=hid (k12 _ _ D11.out (fun _ _ _ h => by cases h))
      clear b12 k12
      go_wp2
      refine ⟨by simp,.inl ⟨_,_,rfl,run_takeDeferred D12.out,?_⟩⟩
      exact ⟨_,results_tmp2 rfl _ _ _,by rw [HB0.out.1,HB0.out.2]; rfl,B12.out.trans (belowK_b (w:=w) (Nat.le_refl _) _ D _ _ (by omega) D12.out rfl rfl)⟩
   · have hwr:=WO FT hl w5
     have e1 : Er l = 2:=by rw [HBE.out,if_pos (by omega)]
     have e2 : C3 l = ⟨#[]⟩:=by unfold C3; rw [if_neg (by omega)]
     refine hwr.mono ?_
     rintro e w6 ⟨rfl,rfl⟩
     go_wp2
     exact ⟨_,results_tmp2 rfl _ _ _,by rw [e1,e2]; rfl,B5.out⟩
 · have hE1 : Er l = De l:=by
     unfold De at hE ⊢
     unfold Er
     split
     · rfl
     · rename_i hne
       rw [if_neg hne] at hE
       rw [if_pos hE]
   have hS1 : C3 l = ⟨#[]⟩:=by unfold C3; rw [if_neg (by omega)]
   rw [hE1,hS1]
   have hc1 : ((De l : Int) == 0) = false:=by simp; omega
   generalize De l = E at *
   go_enter Tryz.func141,Tryz.ntmps141
   go_wp2_with fail
   refine hchk.mono ?_
   rintro e w2 ⟨rfl,b2⟩
   have B2:=hid b2
   clear b2 hchk
   go_wp2
   go_ret2
   exact ⟨rfl,B2.out⟩
end
section
open Go.RowKit
theorem ZM (m : Nat) (R : Option (List UInt8)) : ((Gn m R).2.getD []).length <= (R.getD []).length:=by
 unfold Gn
 split
 · simp
 · rename_i l
   split
   · split
     · simp
     · simp
   · simp
theorem Pc (n : Int) (R : Option (List UInt8)) : (CW n R).1.length <= (R.getD []).length /\ ((CW n R).2.getD []).length <= (R.getD []).length:=by
 unfold CW
 split
 · simp
 · split
   · simp
   · simp
     omega
theorem Y1 (m : Int) (R : Option (List UInt8)) : ((CI m R).2.getD []).length <= (R.getD []).length:=by
 unfold CI
 split
 · simp
 · exact ZM _ _
theorem PL (R : Option (List UInt8)) : (textS R).1.length <= (R.getD []).length:=by
 cases R with
 | none => rw [text_none]; simp
 | some l =>
   rw [Pa]
   have h1:=(Pc ((CI (l.length : Int) (some l)).1 : Int) (CI (l.length : Int) (some l)).2).1
   have h2:=Y1 (l.length : Int) (some l)
   omega
theorem RDE.len {w : World} {b : Nat} {R : Option (List UInt8)} (h : RDE w b R) : (R.getD []).length <= 140737488351232:=by
 obtain ⟨s,h⟩:=h
 have h1:=h.text
 have h2:=h.size
 rw [<- h1]
 simpa using h2
def GI (R : Option (List UInt8)) : Aa × Option (List UInt8):=
 if (CI 8193 (textS R).2).1 = 0 then (⟨⟨(textS R).1.toArray⟩,⟨#[]⟩,true⟩,(CI 8193 (textS R).2).2)
 else (⟨⟨(textS R).1.toArray⟩,⟨(CW (((CI 8193 (textS R).2).1 : Int) - 1) (CI 8193 (textS R).2).2).1.toArray⟩,false⟩,(CW (((CI 8193 (textS R).2).1 : Int) - 1) (CI 8193 (textS R).2).2).2)
theorem TG (l : List UInt8) : GI (some l) = (⟨⟨(NQ l).1.toArray⟩,⟨(NQ l).2.2.1.toArray⟩,decide ((NQ l).2.1 = 0)⟩,(NQ l).2.2.2):=by
 unfold GI NQ
 by_cases h : (CI 8193 (textS (some l)).2).1 = 0
 · rw [if_pos h,if_neg (by omega),h]; rfl
 · rw [if_neg h,if_pos (by omega),decide_eq_false h]
theorem UF {x : Aa} (h : Aw x = 0) (r : List UInt8) : GI (some (Du x ++ r)) = (x,some r):=by
 have h1:=JP h r
 rw [TG,h1]
 obtain ⟨k,v,g⟩:=x
 cases g with
 | true => simp []
 | false => simp []
theorem XN {l r : List UInt8} {x : Aa} (h : GI (some l) = (x,some r)) : l = Du x ++ r:=by
 unfold GI at h
 cases ht : textS (some l) with
 | mk t o =>
   rw [ht] at h
   simp only at h
   cases o with
   | none =>
     rw [YN,if_pos rfl] at h
     injection h with _ h
     cases h
   | some l1 =>
     obtain ⟨t1,t2⟩:=RV ht
     cases hi : CI 8193 (some l1) with
     | mk m o =>
       rw [hi] at h
       simp only at h
       have hkk : (⟨t.toArray⟩ : ByteArray).size = t.length:=A0 t
       split at h
       · rename_i hm
         injection h with h1 h2
         subst h1
         subst h2
         obtain ⟨_,i2,i3⟩:=VD hi
         unfold Du NK
         rw [if_pos rfl,hkk,t2,i3,hm]
         simp only [List.append_assoc]
       · rename_i hm
         cases o with
         | none =>
           rw [Xc] at h
           injection h with _ h
           cases h
         | some l2 =>
           obtain ⟨_,i2,i3⟩:=VD hi
           rw [show ((m : Int) - 1) = ((m - 1 : Nat) : Int) by omega] at h
           cases hk : CW ((m - 1 : Nat) : Int) (some l2) with
           | mk v o =>
             rw [hk] at h
             simp only at h
             injection h with h1 h2
             subst h1
             subst h2
             obtain ⟨k1,k2⟩:=RM hk
             have hv : (⟨v.toArray⟩ : ByteArray).size = v.length:=A0 v
             unfold Du NK
             rw [if_neg (by simp),hkk,hv,t2,i3,k1,show v.length + 1 = m by omega]
             simp only [List.append_assoc]
theorem clone_any (s : ByteArray) (w : World) (hlim : s.size <= 281474976710656) :
 Calls Tryz.prog 70 #[.string s] w fun e w' => e = .returned (.string s) /\ Below w.heap.size w w':=by
 go_enter Tryz.func70,Tryz.ntmps70
 go_wp2_with fail
 refine (Sh.stringslite_Clone s w hlim).mono ?_
 rintro e w1 ⟨rfl,b1⟩
 go_wp2
 go_ret
 exact ⟨rfl,b1⟩
theorem JA {fn : Func} {p : Tmp} {ty : TypeId} (h : fn.results = #[.cell p ty]) (tmps : Array Value) (P : Program) (w : World) :
 (results fn tmps).run P w = ((asAddr (tmps.getD p undef)).run P w).andThen fun a w₁ => (loadVar ty a).run P w₁:=by
 simp only [results,h]
 simp [Sem.run_bind]
theorem Ov {a b c : World} {x : Nat} {R : Option (List UInt8)} (h : EH a b x R) (k : Below b.heap.size b c) : EH a c x R:=⟨h.1.below k,CJ h.2 (Jo k _)⟩
theorem Ul {a : World} {x : Nat} {R : Option (List UInt8)} (h : RDE a x R) (o : Obj) : EH a (a.alloc o) x R:=⟨h.below ((Below.refl _ a).alloc (Nat.le_refl _) _),Jo ((Below.refl _ a).alloc (Nat.le_refl _) _) _⟩
theorem left_set {a b : World} {x p j : Nat} {v : Value} {R : Option (List UInt8)} (h : EH a b x R) (hp : a.heap.size <= p) (hx : x < a.heap.size) : EH a (b.setCell ⟨p,j,none⟩ v) x R:=by
 have hb : ∀ k,k < a.heap.size -> (b.setCell ⟨p,j,none⟩ v).heap[k]? = b.heap[k]?:=fun k hk => Cr (by omega)
 have g:=FC b ⟨p,j,none⟩ v
 exact ⟨h.1.block (hb x hx),⟨g.os.trans h.2.os,g.tape.trans h.2.tape,g.output.trans h.2.output,Nat.le_trans h.2.size g.size,fun k hk hne => (hb k hk).trans (h.2.block k hk hne)⟩⟩
set_option maxHeartbeats 1000000 in
set_option maxRecDepth 100000 in
theorem QQ {w : World} {b : Nat} {R : Option (List UInt8)} (h : RDE w b R) :
 Calls Tryz.prog 223 #[.pointer (some ⟨b,0,none⟩)] w fun e w' => e = .returned (GI R).1.val' /\ EH w w' b (GI R).2:=by
 have hL0:=Ul h (.cells #[.string ⟨#[]⟩,.string ⟨#[]⟩,.bool false] 57)
 have hnew:=heap_alloc_new w (.cells #[.string ⟨#[]⟩,.string ⟨#[]⟩,.bool false] 57)
 have hlt:=h.lt
 have HS : Hid (∀ k R1 n R2,textS R = (k,R1) -> CI 8193 R1 = (n,R2) -> GI R = if n = 0 then (⟨⟨k.toArray⟩,⟨#[]⟩,true⟩,R2) else (⟨⟨k.toArray⟩,⟨(CW ((n : Int) - 1) R2).1.toArray⟩,false⟩,(CW ((n : Int) - 1) R2).2)):=fun k R1 n R2 h1 h2 => by
  unfold GI
  rw [h1]
  simp only
  rw [h2]
 have hk0:=PL R
 have hk1:=h.len
 cases hk : textS R with | mk k R1 =>
 cases hn : CI 8193 R1 with | mk n R2 =>
 have HST:=hid (HS.out k R1 n R2 hk hn)
 rw [hk] at hk0
 simp only at hk0
 have hct:=Io hL0.1
 rw [hk] at hct
 obtain ⟨K,eK1,eK2,eK3⟩:=Q8 k
 simp only [eK1] at hct
 have hn0 : n <= 8193:=by
  have h1:=congrArg Prod.fst hn
  have h2 : (CI 8193 R1).1 <= 8193:=Aav 8193 R1
  rw [h1] at h2
  exact h2
 have HCT:=hid hct
 have HL0:=hid hL0
 have HN0:=hid hnew
 have eK4 : (⟨k.toArray⟩ : ByteArray) = K:=(VG eK2).symm
 clear hct hL0 HS hk hnew h
 go_enter Tryz.func223,Tryz.ntmps223
 go_wp2_with fail
 have hN1:=HN0.out
 generalize w.alloc (.cells #[.string ⟨#[]⟩,.string ⟨#[]⟩,.bool false] 57) = w0 at *
 refine HCT.out.mono ?_
 rintro e w1 ⟨rfl,l1⟩
 have N1:=hid ((l1.2.block _ (Ad hN1) (by simp; omega)).trans hN1)
 have L1:=hid (HL0.out.trans l1)
 clear l1 HCT HL0 hN1 HN0
 go_wp2_with fail
 refine (clone_any K w1 (by omega)).mono ?_
 rintro e w2 ⟨rfl,b2⟩
 have N2:=hid ((b2.block _ (Ad N1.out)).trans N1.out)
 have L2:=hid (Ov L1.out b2)
 have hci:=Gb L2.out.1 8193 (by omega)
 rw [hn] at hci
 simp only at hci
 have HCI:=hid hci
 clear b2 hci hn N1 L1
 go_wp2_with fail
 refine HCI.out.mono ?_
 rintro e w3 ⟨rfl,l3⟩
 have hN3:=(l3.2.block _ (Ad N2.out) (by simp; omega)).trans N2.out
 have L3:=hid (L2.out.trans l3)
 clear l3 HCI N2 L2
 by_cases hn1 : n = 0
 · subst hn1
   rw [if_pos rfl,eK4] at HST
   have e0 : w3.cell? ⟨w.heap.size,0,none⟩ = some (.string ⟨#[]⟩):=by rw [Ab hN3]; rfl
   have e1 : w3.cell? ⟨w.heap.size,1,none⟩ = some (.string ⟨#[]⟩):=by rw [Ab hN3]; rfl
   have e2 : w3.cell? ⟨w.heap.size,2,none⟩ = some (.bool false):=by rw [Ab hN3]; rfl
   have f0:=Ag hN3 0
   have f1:=Ag hN3 1
   have f2:=Ag hN3 2
   have hn00 : (((0 : Nat) : Int) == 0) = true:=rfl
   clear hN3
   go_wp2
   (try simp only [Exit.inBlock,Exit.then])
   refine bodyPost_ret (v:=.agg #[.string K,.string ⟨#[]⟩,.bool true]) ?_ rfl ⟨?_,?_⟩
   · rw [JA rfl]
     go_simp
   · rw [HST.out]; rfl
   · rw [HST.out]
     exact left_set (left_set (left_set L3.out (Nat.le_refl _) hlt) (Nat.le_refl _) hlt) (Nat.le_refl _) hlt
 · rw [if_neg hn1,eK4] at HST
   have hvl:=(Pc ((n : Int) - 1) R2).1
   have hrl:=L3.out.1.len
   have hct2:=Kw L3.out.1 ((n : Int) - 1) (by omega)
   cases hv : CW ((n : Int) - 1) R2 with | mk v R3 =>
   rw [hv] at hct2 HST hvl
   simp only at hvl HST
   obtain ⟨V,eV1,eV2,eV3⟩:=Q8 v
   simp only [eV1] at hct2
   have eV4 : (⟨v.toArray⟩ : ByteArray) = V:=(VG eV2).symm
   rw [eV4] at HST
   have HCT2:=hid hct2
   have hw1 : wrap64 ((n : Int) - 1) = (n : Int) - 1:=IntWalk.wrap64_in _ (by omega)
   have hn00 : ((n : Int) == 0) = false:=by simp; omega
   have N3:=hid hN3
   clear hct2 hv hN3
   go_wp2_with fail
   refine HCT2.out.mono ?_
   rintro e w4 ⟨rfl,l4⟩
   have N4:=hid ((l4.2.block _ (Ad N3.out) (by simp; omega)).trans N3.out)
   have L4:=hid (L3.out.trans l4)
   clear l4 HCT2 N3 L3
   go_wp2_with fail
   refine (clone_any V w4 (by omega)).mono ?_
   rintro e w5 ⟨rfl,b5⟩
   have hN5:=(b5.block _ (Ad N4.out)).trans N4.out
   have L5:=hid (Ov L4.out b5)
   clear b5 N4 L4
   have e0 : w5.cell? ⟨w.heap.size,0,none⟩ = some (.string ⟨#[]⟩):=by rw [Ab hN5]; rfl
   have e1 : w5.cell? ⟨w.heap.size,1,none⟩ = some (.string ⟨#[]⟩):=by rw [Ab hN5]; rfl
   have e2 : w5.cell? ⟨w.heap.size,2,none⟩ = some (.bool false):=by rw [Ab hN5]; rfl
   have f0:=Ag hN5 0
   have f1:=Ag hN5 1
   have f2:=Ag hN5 2
   clear hN5
   go_wp2
   (try simp only [Exit.inBlock,Exit.then])
   refine bodyPost_ret (v:=.agg #[.string K,.string V,.bool false]) ?_ rfl ⟨?_,?_⟩
   · rw [JA rfl]
     go_simp
   · rw [HST.out]; rfl
   · rw [HST.out]
     exact left_set (left_set (left_set L5.out (Nat.le_refl _) hlt) (Nat.le_refl _) hlt) (Nat.le_refl _) hlt
end
section
open Go.RowKit
def QP (s : List UInt8) (done : List Aa) (R : Option (List UInt8)) : Prop:=(∀ rest,R = some rest -> s = AS done ++ rest) /\ ∀ ys,Jq s ys -> ∃ zs,ys = done ++ zs /\ R = some (AS zs)
theorem QP.start (s : List UInt8) : QP s [] (some s):=⟨fun rest h => Option.some.inj h,fun ys h => ⟨ys,rfl,by rw [<- h.1]⟩⟩
theorem QP.next {s rest : List UInt8} {done : List Aa} (h : QP s done (some rest)) (hr : rest ≠ []) : QP s (done ++ [(GI (some rest)).1]) (GI (some rest)).2:=by
 refine ⟨fun r e => ?_,fun ys hy => ?_⟩
 · have h1 : GI (some rest) = ((GI (some rest)).1,some r):=by rw [<- e]
   have h2:=XN h1
   rw [M5,List.append_assoc,<- h2]
   exact h.1 rest rfl
 · obtain ⟨zs,e1,e2⟩:=h.2 ys hy
   injection e2 with e2
   cases zs with
   | nil => exact absurd e2 hr
   | cons z zs =>
     have hz : Aw z = 0:=hy.2.2.2 z (by rw [e1]; simp)
     rw [D1] at e2
     have h1:=UF hz (AS zs)
     rw [<- e2] at h1
     rw [h1]
     exact ⟨zs,by rw [e1]; simp,rfl⟩
theorem QP.done {s : List UInt8} {done : List Aa} {R : Option (List UInt8)} (h : QP s done R) (hR : done.length = 8 \/ R = none \/ R = some []) (ok : Bool) (hok : ok = (decide (0 < done.length) && Fs R)) :
 (ok = true -> s = AS done /\ 1 <= done.length) /\ ∀ ys,Jq s ys -> ok = true /\ done = ys:=by
 refine ⟨fun e => ?_,fun ys hy => ?_⟩
 · rw [hok] at e
   have e1:=Bool.and_eq_true_iff.1 e
   have e2:=of_decide_eq_true e1.1
   have e3 : R = some []:=by
    have:=e1.2
    unfold Fs at this
    simpa using this
   exact ⟨by have:=h.1 [] e3; rwa [List.append_nil] at this,e2⟩
 · obtain ⟨zs,e1,e2⟩:=h.2 ys hy
   have hz : zs = []:=by
    rcases hR with hR | hR | hR
    · have:=hy.2.2.1
      rw [e1,List.length_append] at this
      exact List.eq_nil_of_length_eq_zero (by omega)
    · rw [hR] at e2; cases e2
    · rw [hR] at e2
      injection e2 with e2
      cases zs with
      | nil => rfl
      | cons z r =>
        rw [D1] at e2
        have h1:=Jy z
        have h2:=congrArg List.length e2
        rw [List.length_append] at h2
        simp at h2
        omega
   subst hz
   rw [List.append_nil] at e1
   have hl:=hy.2.1
   refine ⟨?_,e1.symm⟩
   rw [hok,e2,<- e1,decide_eq_true (show 0 < ys.length from hl)]
   rfl
def Aba (v : Value) : Nat:=match v with | .slice _ n _ => n | _ => 0
theorem Nz (a : Option Addr) (n c : Nat) : Aba (.slice a n c) = n:=rfl
theorem Ys {R : Option (List UInt8)} (h : Fs R = true) : R = some []:=by unfold Fs at h; simpa using h
set_option maxHeartbeats 2000000 in
set_option maxRecDepth 100000 in
theorem OF (s : ByteArray) (hs : s.size <= 140737488351232) (w : World) :
 Calls Tryz.prog 195 #[.string s] w fun e w' => ∃ xs v ok,e = .returned (.tuple #[v,.bool ok]) /\ w'.ownsRow w.heap.size 57 3 v (xs : List Aa).length (AA xs) /\ xs.length <= 8 /\
  (ok = true -> s.data.toList = AS xs /\ 1 <= xs.length) /\ (∀ ys,Jq s.data.toList ys -> ok = true /\ xs = ys) /\ Below w.heap.size w w':=by
 obtain ⟨i0,hi,hz0,hz1,hz2⟩:=info_parts infoPair
 go_enter Tryz.func195,Tryz.ntmps195
 go_wp2_with fail
 refine (IK s hs w).mono ?_
 rintro e w0 ⟨rfl,hR0,b0⟩
 have HB0:=hid b0
 have HR0:=hid hR0
 have hl0:=hR0.lt
 clear hR0 b0
 go_wp2
 go_loopw [5] (fun v wr => ∃ (done : List Aa) (R : Option (List UInt8)),done.length <= 8 /\ wr.ownsRow (w.heap.size + 1) 57 3 v done.length (AA done) /\ Hid (RDE wr w.heap.size R /\ QP s.data.toList done R /\ Below w.heap.size w wr))
  (fun v _ => 8 - Aba v)
 case atStart => exact ⟨[],some s.data.toList,by simp,World.ownsRow_nil _ _ _ _,HR0.out,QP.start _,HB0.out⟩
 case round =>
  clear HR0 HB0
  obtain ⟨done,R,h8,hown,HI⟩:=hrel
  obtain ⟨va,vc,rfl⟩:=An hown
  have HE:=hid hown
  by_cases h88 : done.length = 8
  · have hlt : ¬ (done.length : Int) < 8:=by omega
    have HD:=hid (fun ok hok => HI.out.2.1.done (.inl h88) ok hok)
    clear hown h88
    go_wp2_with fail
    refine (Iu HI.out.1).mono ?_
    rintro e w1 ⟨rfl,rfl⟩
    have hB:=HI.out.2.2
    go_wp2
    go_ret2
    exact ⟨done,_,Fs R,rfl,Au HE.out (by omega),h8,(HD.out (Fs R) (by rw [decide_eq_true (show 0 < done.length by omega)]; rfl)).1,(HD.out (Fs R) (by rw [decide_eq_true (show 0 < done.length by omega)]; rfl)).2,hB⟩
  · have hlt : (done.length : Int) < 8:=by omega
    have hbad:=Ge HI.out.1
    have hend:=Iu HI.out.1
    cases R with
    | none =>
      have HD:=hid (fun ok hok => HI.out.2.1.done (.inr (.inl rfl)) ok hok)
      have hz : Fs none = false:=rfl
      rw [hz] at hend
      simp only [Option.isNone_none] at hbad
      go_wp2_with fail
      refine hbad.mono ?_
      rintro e w1 ⟨rfl,rfl⟩
      have hB:=HI.out.2.2
      by_cases hd : done = []
      · subst hd
        have h1:=hid (HD.out false rfl)
        clear hown HD
        go_wp2
        go_ret2
        exact ⟨[],_,false,rfl,Au HE.out (by omega),by simp,h1.out.1,h1.out.2,hB⟩
      · have hd0 : 0 < done.length:=List.length_pos_iff.2 hd
        have hgt : (0 : Int) < (done.length : Int):=by omega
        have h1:=hid (HD.out false (by rw [decide_eq_true hd0]; rfl))
        go_wp2_with fail
        refine hend.mono ?_
        rintro e w1 ⟨rfl,rfl⟩
        go_wp2
        go_ret2
        exact ⟨done,_,false,rfl,Au HE.out (by omega),h8,h1.out.1,h1.out.2,hB⟩
    | some rest =>
      simp only [Option.isNone_some] at hbad
      by_cases hr : rest = []
      · subst hr
        have HD:=hid (fun ok hok => HI.out.2.1.done (.inr (.inr rfl)) ok hok)
        have hz : Fs (some []) = true:=rfl
        rw [hz] at hend
        go_wp2_with fail
        refine hbad.mono ?_
        rintro e w1 ⟨rfl,rfl⟩
        go_wp2_with fail
        refine hend.mono ?_
        rintro e w1 ⟨rfl,rfl⟩
        have hB:=HI.out.2.2
        by_cases hd : done = []
        · subst hd
          have h1:=hid (HD.out false rfl)
          clear hown HD
          go_wp2
          go_ret2
          exact ⟨[],_,false,rfl,Au HE.out (by omega),by simp,h1.out.1,h1.out.2,hB⟩
        · have hd0 : 0 < done.length:=List.length_pos_iff.2 hd
          have hgt : (0 : Int) < (done.length : Int):=by omega
          have h1:=hid (HD.out true (by rw [decide_eq_true hd0]; rfl))
          go_wp2_with fail
          refine hend.mono ?_
          rintro e w1 ⟨rfl,rfl⟩
          go_wp2
          go_ret2
          exact ⟨done,_,true,rfl,Au HE.out (by omega),h8,fun _ => h1.out.1 trivial,fun ys hy => ⟨rfl,(h1.out.2 ys hy).2⟩,hB⟩
      · have hz : Fs (some rest) = false:=by unfold Fs; simpa using hr
        rw [hz] at hend
        have HBI:=hid (HI.out.2.1.next hr)
        have hrp:=QQ HI.out.1
        have hl0':=HI.out.1.lt
        have HBB:=hid HI.out.2.2
        generalize GI (some rest) = st at *
        obtain ⟨⟨xk,xv,xg⟩,R'⟩:=st
        unfold Aa.val' at hrp
        simp only at hrp HBI
        clear HI
        go_wp2_with fail
        refine hbad.mono ?_
        rintro e w1 ⟨rfl,rfl⟩
        go_wp2_with fail
        refine hend.mono ?_
        rintro e w1 ⟨rfl,rfl⟩
        go_wp2_with fail
        refine hrp.mono ?_
        rintro e w3 ⟨rfl,l3⟩
        have hown3:=Y8 l3 hown (by omega)
        have HR3:=hid (RDE.below l3.1 ((Below.refl _ w3).alloc (Nat.le_refl _) (.cells #[.string xk,.string xv,.bool xg] 57)))
        have HB3:=hid (HBB.out.trans (l3.below HBB.out.size (Nat.le_refl _)))
        have hlt3 : w.heap.size < w3.heap.size:=l3.1.lt
        clear l3 hrp hbad hend
        go_wp2_with (at_builtin; go_loud (refine wpList_append_own _ rfl (.tmp 21) (.tmp 24) 30 rfl (w.heap.size + 1) 57 i0 _ 3 40 Tryz.underlying30 hi hz0 hz1 hz2 rfl (by decide) _ _ _ rfl (hown3.alloc _) ⟨w3.heap.size,0,none⟩ 1 1 [.string xk,.string xv,.bool xg] rfl rfl (Ev w3 ⟨xk,xv,xg⟩) (DL ⟨xk,xv,xg⟩) ?p3 ?p4 ?p5 ?_))
        case p3 => unfold maxLen; omega
        case p4 => omega
        case p5 => simp; omega
        intro v' w4 hown' hgrow _
        have hrow' : w4.ownsRow (w.heap.size + 1) 57 3 v' (done ++ [(⟨xk,xv,xg⟩ : Aa)]).length (AA (done ++ [(⟨xk,xv,xg⟩ : Aa)])):=by
         rw [List.length_append,DH]
         exact hown'
        have HRD:=hid (HR3.out.kept hgrow (fun e => by
         cases hv0 : (Value.slice va done.length vc).ownBlock with
         | none => rw [hv0] at e; cases e
         | some j => rw [hv0] at e; injection e with e; have:=(hown3.lt j hv0).1; omega))
        have HB4:=hid ((HB3.out.alloc (by omega) _).grown hgrow (by simp; omega) (fun j hj => by have:=(hown3.lt j hj).1; omega))
        obtain ⟨va',vc',rfl⟩:=An hrow'
        clear hown' hgrow hi
        go_wp2
        go_roundw
        case rel => exact ⟨done ++ [⟨xk,xv,xg⟩],R',by rw [List.length_append,List.length_singleton]; omega,hrow',HRD.out,HBI.out,HB4.out⟩
        case measure =>
         show 8 - Aba (.slice va' _ vc') < 8 - Aba (.slice va done.length vc)
         rw [Nz,Nz,List.length_append,List.length_singleton]
         omega
end
section
open Go.RowKit
def MX (fs : List (List UInt8)) (i : Nat) (done : List Aa) : Prop:=fs.take i = AI done i /\ Ao done.length = i /\ ∀ l,Az l -> fs = AI l (Ao l.length) -> done = l.take (8 * i)
theorem MX.start (fs : List (List UInt8)) : MX fs 0 []:=⟨by simp [AI],rfl,fun l _ _ => by simp⟩
theorem MX.known {fs : List (List UInt8)} {i : Nat} {done : List Aa} (h : MX fs i done) (hi : i < fs.length) {l : List Aa} (hf : Az l) (hl : fs = AI l (Ao l.length)) : Jq (fs.getD i []) (BQ l i) /\ done.length % 8 = 0 /\ done = l.take (8 * i):=by
 have h1:=h.2.2 l hf hl
 have hlen : Ao l.length = fs.length:=by rw [hl,Ca]
 have e : fs.getD i [] = AS (BQ l i):=by
  have:=Kk (l:=l) (n:=Ao l.length) (i:=i) (by omega)
  have h2 : fs[i]? = some (AS (BQ l i)):=by
   rw [hl,List.getElem?_eq_getElem (by rw [Ca]; omega),this]
  simp [List.getD,h2]
 refine ⟨by rw [e]; exact U5 hf (by omega),?_,h1⟩
 rw [h1,List.length_take]
 unfold Ao at hlen
 omega
theorem MX.next {fs : List (List UInt8)} {i : Nat} {done xs : List Aa} (h : MX fs i done) (hi : i < fs.length) (h8 : done.length % 8 = 0) (hb : fs.getD i [] = AS xs) (h1 : 1 <= xs.length) (h2 : xs.length <= 8) (hk : ∀ ys,Jq (fs.getD i []) ys -> xs = ys) : MX fs (i + 1) (done ++ xs):=by
 have hd : done.length = 8 * i:=by have:=h.2.1; unfold Ao at this; omega
 refine ⟨?_,by rw [List.length_append]; unfold Ao; omega,fun l hf hl => ?_⟩
 · have e : fs[i] = fs.getD i []:=by simp [List.getD,hi]
   rw [List.take_succ_eq_append_getElem hi,h.1,e,hb,KZ,OT (by omega),Xb hd h2]
 · obtain ⟨k1,k2,k3⟩:=h.known hi hf hl
   rw [hk _ k1,k3,show 8 * (i + 1) = 8 * (i + 1) from rfl,LK]
theorem MX.all {fs : List (List UInt8)} {done : List Aa} (h : MX fs fs.length done) : fs = AI done (Ao done.length) /\ ∀ l,Az l -> fs = AI l (Ao l.length) -> done = l:=by
 refine ⟨by have:=h.1; rw [List.take_length] at this; rw [h.2.1]; exact this,fun l hf hl => ?_⟩
 rw [h.2.2 l hf hl]
 have hlen : Ao l.length = fs.length:=by rw [hl,Ca]
 refine List.take_of_length_le ?_
 unfold Ao at hlen
 omega
theorem Xp (n : Nat) : Int.tmod (n : Int) 8 = ((n % 8 : Nat) : Int):=by
 rw [Int.tmod_eq_emod_of_nonneg (by omega)]
 omega
set_option maxHeartbeats 2000000 in
set_option maxRecDepth 100000 in
theorem NY {w : World} {a : Option Addr} {c : Nat} {fs : List (List UInt8)} (h : GY w a fs.length (fun i => tx (fs.getD i []))) (hz : ∀ i,(fs.getD i []).length <= 1048576) (hn : fs.length <= 219902325556) :
 Calls Tryz.prog 152 #[.slice a fs.length c] w fun e w' => ∃ xs v ok,e = .returned (.tuple #[v,.bool ok]) /\ (ok = true -> w'.ownsRow w.heap.size 57 3 v (xs : List Aa).length (AA xs) /\ fs = AI xs (Ao xs.length)) /\
  (∀ l,Az l -> fs = AI l (Ao l.length) -> ok = true /\ xs = l) /\ Below w.heap.size w w':=by
 obtain ⟨i0,hi,hz0,hz1,hz2⟩:=info_parts infoPair
 have H:=hid h
 have HZ:=hid hz
 clear h hz
 go_enter Tryz.func152,Tryz.ntmps152
 go_wp2
 go_loopw [4,11] (fun v iv wr => ∃ (i : Nat) (done : List Aa),i <= fs.length /\ iv = .int .i64 (i : Int) /\ wr.ownsRow w.heap.size 57 3 v done.length (AA done) /\ Hid (MX fs i done /\ Below w.heap.size w wr))
  (fun _ iv _ => fs.length - (intOf iv).toNat)
 case atStart => exact ⟨0,[],Nat.zero_le _,rfl,World.ownsRow_nil _ _ _ _,MX.start fs,Below.refl _ _⟩
 case round =>
  obtain ⟨i,done,hil,rfl,hown,HI⟩:=hrel
  obtain ⟨va,vc,rfl⟩:=An hown
  have hdl : done.length <= 8 * i:=by have:=HI.out.1.2.1; unfold Ao at this; omega
  by_cases hlt : i < fs.length
  · obtain ⟨b,off,ha,hbl,hc⟩:=H.out.at hlt
    subst ha
    have hck : wr.cell? ⟨b,off + i,none⟩ = some (tx (fs.getD i [])):=(HI.out.2.cell hbl).trans hc
    have hsz:=HZ.out i
    have HRN:=hid (fun xs h8 hb h1 h2 hk => HI.out.1.next (xs:=xs) hlt h8 hb h1 h2 hk)
    have HKN:=hid (fun l hf hl => HI.out.1.known (l:=l) hlt hf hl)
    have hmeas : fs.length - (intOf (.int .i64 ((i : Int) + 1))).toNat < fs.length - (intOf (.int .i64 (i : Int))).toNat:=by simp [intOf]; omega
    generalize fs.getD i [] = s at *
    obtain ⟨S,eS⟩ : ∃ S : ByteArray,(⟨s.toArray⟩ : ByteArray) = S:=⟨_,rfl⟩
    have dS : S.data.toList = s:=by rw [<- eS]
    have zS : S.size = s.length:=by rw [<- eS,A0]
    unfold tx at hck
    rw [eS] at hck
    have hrb:=OF S (by omega) wr
    rw [dS] at hrb
    clear hc eS
    go_wp2_with fail
    refine hrb.mono ?_
    rintro e w1 ⟨xs,v1,ok,rfl,o1,h8,k1,k2,b1⟩
    have hown1:=Ah hown b1
    have B1:=hid (HI.out.2.trans (b1.mono HI.out.2.size))
    have hs0:=HI.out.2.size
    obtain ⟨xa,xc,rfl⟩:=An o1
    have HK1:=hid k1
    have HK2:=hid k2
    clear hown b1 hrb k1 k2 HI
    have hrm:=Xp done.length
    cases ok with
    | false =>
      have HN : Hid (∀ l,Az l -> fs = AI l (Ao l.length) -> (false : Bool) = true /\ ([] : List Aa) = l):=fun l hf hl => by
       have:=(HK2.out _ (HKN.out l hf hl).1).1
       cases this
      go_wp2
      go_ret2
      exact ⟨[],_,false,rfl,fun h => by (cases h),HN.out,B1.out⟩
    | true =>
      by_cases h88 : done.length % 8 = 0
      · have hr0 : Int.tmod (done.length : Int) 8 = 0:=by rw [hrm,h88]; rfl
        clear hrm
        have HNX:=hid (HRN.out xs h88 (HK1.out rfl).1 (HK1.out rfl).2 h8 (fun ys hy => (HK2.out ys hy).2))
        have own0:=Au (base':=0) hown1 (Nat.zero_le _)
        have hsrc:=V4 o1 (KC xs)
        have HNB:=hid (fun k hk => (hown1.lt k hk).1)
        have hs1:=B1.out.size
        go_wp2_with (at_builtin; go_loud (refine Bp _ rfl (.tmp 28) (.tmp 29) rfl Tryz.underlying30 hi hz0 hz1 hz2 rfl (by decide) rfl own0 rfl hsrc ?a1 ?a2 ?_))
        case a1 => omega
        case a2 => unfold maxLen; omega
        intro v6 w6 o6 g6 l6
        have o7 : w6.ownsRow w.heap.size 57 3 v6 (done ++ xs).length (AA (done ++ xs)):=by
         rw [List.length_append,FE]
         refine JW o6 (fun k hk => ?_)
         rcases l6 k hk with h | h
         · exact HNB.out k h
         · omega
        have B6:=hid (B1.out.grown g6 (by omega) (fun k hk => HNB.out k hk))
        clear own0 hsrc o6 g6 l6 hown1 o1 hi
        go_wp2
        go_roundw
        case rel => exact ⟨i + 1,done ++ xs,by omega,by go_num,o7,HNX.out,B6.out⟩
        case measure => exact hmeas
      · have hr0 : (Int.tmod (done.length : Int) 8 == 0) = false:=by rw [hrm]; simp; omega
        have HN : Hid (∀ l,Az l -> fs = AI l (Ao l.length) -> (false : Bool) = true /\ ([] : List Aa) = l):=fun l hf hl => absurd (HKN.out l hf hl).2.1 h88
        clear hrm
        go_wp2
        go_ret2
        exact ⟨[],_,false,rfl,fun h => by (cases h),HN.out,B1.out⟩
  · obtain rfl : i = fs.length:=by omega
    have HA:=hid HI.out.1.all
    have HB:=hid HI.out.2
    have HO:=hid hown
    clear HI hown
    go_wp2
    go_ret2
    exact ⟨done,_,true,rfl,fun _ => ⟨HO.out,HA.out.1⟩,fun l hf hl => ⟨rfl,HA.out.2 l hf hl⟩,HB.out⟩
end
end Go.Proofs.YtnafjlhohbhcoaaGreatDoor

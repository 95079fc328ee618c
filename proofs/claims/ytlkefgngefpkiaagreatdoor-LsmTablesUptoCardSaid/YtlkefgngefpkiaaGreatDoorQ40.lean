/- Parts of the proof. -/
import Derived.Test.YtlkefgngefpkiaaGreatDoorQ35
import Derived.Test.YtlkefgngefpkiaaGreatDoorQ39
import Derived.Test.YtlkefgngefpkiaaGreatDoorQ06
import Derived.Test.YtlkefgngefpkiaaGreatDoorQ25
import Derived.Test.YtlkefgngefpkiaaGreatDoorQ11
namespace Go.Proofs.YtlkefgngefpkiaaGreatDoor
set_option linter.unusedVariables false
section
open Go.RowKit Go.Maps Go.WideMaps Go.Shelf
structure AY (w : World) (q p : Nat) (nm : ByteArray) (c : Nat) (a : Bool) (S : Bx) (F : Nat -> Prop) : Prop where
 box : AD w p S F
 head : Bg w q p nm c a
 nq : ¬ F q
 nm1 : 1 <= nm.size
 nm8 : nm.size <= 8
 cur1 : 1 <= c
 cur8 : c <= 99999999
 tab : Tab w
 ng : ¬ F 3
 qg : q ≠ 3
section
variable {w w' : World} {q p c : Nat} {nm : ByteArray} {a : Bool} {S S' : Bx} {F G : Nat -> Prop}
theorem AY.below (h : AY w q p nm c a S F) (hb : Below w.heap.size w w') : AY w' q p nm c a S F:=
 ⟨h.box.below hb,h.head.below hb,h.nq,h.nm1,h.nm8,h.cur1,h.cur8,h.tab.below hb,h.ng,h.qg⟩
theorem AY.drew (h : AY w q p nm c a S F) : AY w.drew q p nm c a S F:=h.below (Ay w)
theorem AY.onBox (h : AY w q p nm c a S F) (hb : AD w' p S' (AK F w w')) (t : Ac F w w') : AY w' q p nm c a S' (AK F w w'):=
 ⟨hb,h.head.turn t h.nq,fun hq => by rcases hq with hq | hq; exact h.nq hq; have:=h.head.lt; omega,h.nm1,h.nm8,h.cur1,h.cur8,h.tab.turn t h.ng,
  fun hg => by rcases hg with hg | hg; exact h.ng hg; have:=h.tab.lt; omega,h.qg⟩
theorem LP {v : Value} {i : Nat} : Ac (fun k => k = q) w (w.setCell ⟨q,i,none⟩ v):=(Ac.refl (fun k => k = q) w).setCell (p:=⟨q,i,none⟩) (.inl rfl) v
theorem AY.setApp (h : AY w q p nm c a S F) (a' : Bool) : AY (w.setCell ⟨q,3,none⟩ (.bool a')) q p nm c a' S F:=
 ⟨h.box.kept LP (fun k hk e => by have e' : k = q:=e; subst e'; exact h.nq hk),h.head.setApp a',h.nq,h.nm1,h.nm8,h.cur1,h.cur8,h.tab.turn LP (fun e => h.qg e.symm),h.ng,h.qg⟩
theorem AY.setTo (h : AY w q p nm c a S F) {d : Nat} (h1 : 1 <= d) (h8 : d <= 99999999) : AY (w.setCell ⟨q,2,none⟩ (.int .i64 (d : Int))) q p nm d a S F:=
 ⟨h.box.kept LP (fun k hk e => by have e' : k = q:=e; subst e'; exact h.nq hk),h.head.setCur d,h.nq,h.nm1,h.nm8,h1,h8,h.tab.turn LP (fun e => h.qg e.symm),h.ng,h.qg⟩
end
theorem infoInt4 : (Tryz.prog.info? 3).map (fun i => (i.zero,i.size,i.bytes)) = some (some (.int .i64 0),1,8):=by kernel_rfl
def Qa (ns : List Nat) : List Value:=ns.map fun (n : Nat) => .int .i64 (n : Int)
theorem Sy (nm : Key) (l : List (Key × Ae)) (x : Key × Ae) : AC nm (l ++ [x]) = if AB nm x.1 = 0 then AC nm l else AC nm l ++ [AB nm x.1]:=by
 unfold AC
 rw [List.map_append,List.filter_append,List.map_cons,List.map_nil,List.filter_cons,List.filter_nil]
 by_cases h : AB nm x.1 = 0
 · rw [if_neg (by simp [h]),if_pos h,List.append_nil]
 · rw [if_pos (by simp; omega),if_neg h]
theorem Ri {nm : Key} {l : List (Key × Ae)} {k : Nat} (h : k < l.length) : AC nm (l.take (k + 1)) = if AB nm l[k].1 = 0 then AC nm (l.take k) else AC nm (l.take k) ++ [AB nm l[k].1]:=by
 rw [List.take_succ_eq_append_getElem h,Sy]
theorem J6 (nm : Key) (l : List (Key × Ae)) : (AC nm l).length <= l.length:=by
 unfold AC
 exact Nat.le_trans (List.length_filter_le _ _) (by simp)
theorem Iz (nm f : Key) : AB nm f < 100000000:=by
 by_cases h : AB nm f = 0
 · omega
 · exact (JL h).2
theorem KS {w : World} {base n : Nat} {e : TypeId} {v : Value} {xs : List Value} (h : w.ownsRow base e 1 v n xs) (hn : n <= 9223372036854775807) :
 ∃ a cap,v = .slice a n cap /\ Qv w a n (fun i => xs.getD i undef):=by
 have hl : xs.length = n:=by have:=h.1; omega
 rcases h.2 with ⟨rfl,h0⟩ | ⟨g,cap,cur,rfl,_,hg,hle,_,hcs,htake⟩
 · subst h0
   exact ⟨none,0,rfl,by omega,.inl rfl⟩
 · have hc : ∀ i,i < n -> w.cell? ⟨g,0 + i,none⟩ = some (xs.getD i undef):=by
     intro i hi
     rw [cell_of_row w g _ cur _ _ hg]
     have : (cur.toList.take (n * 1))[0 + i]? = xs[0 + i]?:=by rw [htake]
     rw [List.getElem?_take,if_pos (by omega)] at this
     rw [<- Array.getElem?_toList,this]
     simp [List.getD,hl,hi]
   refine ⟨some ⟨g,0,none⟩,cap,rfl,hn,?_⟩
   by_cases h0 : n = 0
   · exact .inl h0
   · exact .inr ⟨g,0,rfl,World.block_lt_of_cell? w ⟨g,0 + 0,none⟩ (hc 0 (by omega)),hc⟩
theorem AD.name {w : World} {p : Nat} {S : Bx} {F : Nat -> Prop} (h : AD w p S F) {x : Key × Ae} (hx : x ∈ S.files) : x.1.length <= 32:=by
 obtain ⟨m,es,h⟩:=h
 rw [h.files] at hx
 obtain ⟨y,hy,rfl⟩:=List.mem_map.1 hx
 have:=(h.mem.each y hy).2
 unfold Cs at this
 exact (of_decide_eq_true this).2
theorem AaX {l : List (Key × Ae)} {k : Nat} (h : k < l.length) : (l.map fun x => tx x.1).getD k undef = .string ⟨l[k].1.toArray⟩:=by
 simp [List.getD,h,tx]
theorem Aa2 (n : Int) : ∀ u ∈ [Value.int .i64 n],u.oneCell' = true:=by intro u hu; simp at hu; subst hu; rfl
def MD (w : World) (nm : Key) (S : Bx) (e : Ending) (w' : World) : Prop:=
 ∃ v,e = .returned (.tuple #[v,.int .i64 (if S.down then 30 else 0)]) /\ w'.ownsRow w.heap.size 3 1 v (if S.down then [] else AC nm S.files).length (Qa (if S.down then [] else AC nm S.files)) /\ Below w.heap.size w w'
set_option maxHeartbeats 1000000 in
set_option maxRecDepth 100000 in
theorem Ku {w : World} {q p c : Nat} {nm : ByteArray} {a : Bool} {S : Bx} {F : Nat -> Prop} (h : AY w q p nm c a S F) (hl : S.files.length <= 8796093022208) :
 Calls Tryz.prog 64 #[.pointer (some ⟨q,0,none⟩)] w fun e w' => MD w nm.data.toList S e w':=by
 have c0:=h.head.c0
 have hls:=Oc h.box hl
 have H:=Lib.hid h
 obtain ⟨i0,hi,hz0,hz1,hz2⟩:=info_parts infoInt4
 clear h
 by_cases hd : S.down = true
 · rw [if_pos hd,if_pos hd,if_pos hd] at hls
   have hE : ∀ (v : Value) (w' : World),w'.ownsRow w.heap.size 3 1 v 0 [] -> Below w.heap.size w w' -> MD w nm.data.toList S (.returned (.tuple #[v,.int .i64 30])) w':=fun v w' h1 h2 => ⟨v,by rw [if_pos hd],by rw [if_pos hd]; exact h1,h2⟩
   have HE:=Lib.hid hE
   clear hE hd
   go_enter Tryz.func64,Tryz.ntmps64
   go_wp2_with fail
   refine hls.mono ?_
   rintro e w1 ⟨v,rfl,ho,hb⟩
   have HB:=Lib.hid hb
   clear ho hb
   go_wp2
   go_ret2
   exact HE.out _ _ (World.ownsRow_nil _ _ _ _) HB.out
 · rw [if_neg hd,if_neg hd,if_neg hd] at hls
   have hE : ∀ (v : Value) (w' : World),w'.ownsRow w.heap.size 3 1 v (AC nm.data.toList S.files).length (Qa (AC nm.data.toList S.files)) -> Below w.heap.size w w' -> MD w nm.data.toList S (.returned (.tuple #[v,.int .i64 0])) w':=fun v w' h1 h2 => ⟨v,by rw [if_neg hd],by rw [if_neg hd]; exact h1,h2⟩
   have HE:=Lib.hid hE
   clear hE hd
   generalize hfs : S.files = fs at *
   go_enter Tryz.func64,Tryz.ntmps64
   go_wp2_with fail
   refine hls.mono ?_
   rintro e w1 ⟨v,rfl,ho,hb⟩
   obtain ⟨va,vc,rfl⟩:=CT ho
   have HO:=Lib.hid ho
   have HB:=Lib.hid hb
   obtain ⟨ra,rc,hrv,R1⟩:=KS ho (by omega)
   injection hrv with e1 e2 e3
   subst e1; subst e3
   have HR:=Lib.hid R1
   have HN:=Lib.hid (show ∀ x ∈ fs,x.1.length <= 32 from fun x hx => H.out.box.name (by rw [hfs]; exact hx))
   clear hls ho hb R1 hfs
   go_wp2
   go_loopw [6,23] (fun nv iv wr => ∃ (k : Nat),k <= fs.length /\ iv = .int .i64 (k : Int) /\ Hid (wr.ownsRow w1.heap.size 3 1 nv (AC nm.data.toList (fs.take k)).length (Qa (AC nm.data.toList (fs.take k)))) /\ Hid (Below w1.heap.size w1 wr)) (fun _ iv _ => fs.length - (intOf iv).toNat)
   case atStart => exact ⟨0,by omega,rfl,World.ownsRow_nil _ _ _ _,Below.refl _ _⟩
   case round =>
    obtain ⟨k,hk,rfl,HV,HB3⟩:=hrel
    have HB2:=Lib.hid (A8 HB.out (Nat.le_refl _) HB3.out)
    by_cases hlt : k < fs.length
    · obtain ⟨b,off,rfl,hcell⟩:=HR.out.in HB3.out hlt
      have hH:=H.out.below HB2.out
      rw [AaX hlt] at hcell
      have hs32 : fs[k].1.length <= 32:=HN.out _ (List.getElem_mem hlt)
      have hst:=Ri (nm:=nm.data.toList) hlt
      have hsl:=J6 nm.data.toList (fs.take k)
      rw [List.length_take] at hsl
      have hsl2 : (AC nm.data.toList (fs.take k)).length <= 8796093022208:=by omega
      have hnum:=RQ hH.head ⟨fs[k].1.toArray⟩ (by show fs[k].1.toArray.size <= maxLen; rw [List.size_toArray]; unfold maxLen; omega)
      generalize hg : (⟨fs[k].1.toArray⟩ : ByteArray) = f at *
      have hgl : fs[k].1 = f.data.toList:=by rw [<- hg]
      rw [hgl] at hst
      have hns:=Iz nm.data.toList f.data.toList
      have HST:=Lib.hid hst
      clear hst hsl hs32 hg hgl hH
      generalize AB nm.data.toList f.data.toList = num at *
      by_cases h0 : num = 0
      · subst h0
        have HV2 : Hid (wr.ownsRow w1.heap.size 3 1 u6 (AC nm.data.toList (fs.take (k + 1))).length (Qa (AC nm.data.toList (fs.take (k + 1))))):=by rw [HST.out,if_pos rfl]; exact HV
        go_wp2_with fail
        refine hnum.mono ?_
        rintro e w2 ⟨rfl,rfl⟩
        go_wp2
        go_roundw
        case rel => exact ⟨k + 1,by omega,by go_num,HV2,HB3⟩
        case measure => simp [intOf]; omega
      · have h1 : (1 : Int) <= (num : Int):=by omega
        go_wp2_with fail
        refine hnum.mono ?_
        rintro e w2 ⟨rfl,rfl⟩
        have hown1:=HV.out
        go_wp2_with (first
         | (at_builtin; refine wpList_append_own _ rfl (.tmp 32) (.tmp 34) 33 rfl w1.heap.size 3 i0 (.int .i64 0) 1 8 Tryz.underlying33 hi hz0 hz1 hz2 rfl (by decide) _ _ _ rfl (hown1.alloc _) ⟨wr.heap.size,0,none⟩ 1 1 [.int .i64 (num : Int)] rfl rfl ?c1 ?c2 ?c3 ?c4 ?c5 ?_))
        case c1 => exact Fx _ _ _
        case c2 => exact Aa2 _
        case c3 => unfold maxLen; omega
        case c4 => omega
        case c5 => have:=HB3.out.size; simp; omega
        intro v' w3 hown' hgrow _
        have HV2 : Hid (w3.ownsRow w1.heap.size 3 1 v' (AC nm.data.toList (fs.take (k + 1))).length (Qa (AC nm.data.toList (fs.take (k + 1))))):=by
         show World.ownsRow _ _ _ _ _ _ _
         rw [HST.out,if_neg h0,List.length_append]
         unfold Qa
         rw [List.map_append]
         exact hown'
        have HB4 : Hid (Below w1.heap.size w1 w3):=(HB3.out.alloc HB3.out.size _).grown hgrow (by have:=HB3.out.size; simp; omega) (fun k hk => (hown1.lt k hk).1)
        clear hown1 hown' hgrow hnum
        go_wp2
        go_roundw
        case rel => exact ⟨k + 1,by omega,by go_num,HV2,HB4⟩
        case measure => simp [intOf]; omega
    · obtain rfl : k = fs.length:=by omega
      rw [List.take_length] at HV
      go_wp2
      go_ret2
      exact HE.out _ _ (ownsRow_base_a HV.out HB.out.size) HB2.out
end
section
open Go.RowKit Go.Maps Go.WideMaps Go.Shelf
theorem Kd {P : Program} {w : World} {ops : Array Oper} {rest : List Oper} {o : Oper} {a : Act} {Q : Exit -> Act -> World -> Prop} (hgd : o.guard = none) (s x : Operand) (t : TypeId)
 (ho : o.op = .call { callee:=.builtin .append,args:=#[s,x],argTypes:=#[t,t] })
 (base : Nat) (e : TypeId) (i : TypeInfo) (z : Value) (bytes : Nat) (ht : P.underlying t = some (.slice e)) (hi : P.info? e = some i) (hz : i.zero = some z)
 (hsize : i.size = 1) (hby : i.bytes = bytes) (hzs : z.cells.size = 1)
 (v : Value) (n : Nat) (xs : List Value) (hs : a.eval s = v) (hown : w.ownsRow base e 1 v n xs)
 (u : Value) (m : Nat) (ys : List Value) (b2 : Nat) (hx : a.eval x = u) (hsrc : w.ownsRow b2 e 1 u m ys) (h1 : ∀ u ∈ ys,u.oneCell' = true)
 (h63 : n + m <= maxLen) (hbytes : (n + m) * bytes <= 140737488355328) (hbase : base <= w.heap.size)
 (h : ∀ v' w',w'.ownsRow base e 1 v' (n + m) (xs ++ ys) -> w.grownBy w' v.ownBlock -> wpList P ops Q rest (a.put o.dst v') w') : wpList P ops Q (o :: rest) a w:=by
 have hl:=hsrc.1
 rcases hsrc.2 with ⟨hu,h0⟩ | ⟨g,cap,cur,hu,_⟩
 · subst h0
   have hy : ys = []:=List.eq_nil_of_length_eq_zero (by simpa using hl)
   subst hy
   refine wpList_append_own_none hgd s x t ho base e i 1 ht hi v n xs hs hown (by rw [hx,hu]) (h v w (by simpa using hown) (World.grownBy.refl w _))
 · exact wpList_append_own w hgd s x t ho base e i z 1 bytes ht hi hz hsize hby hzs (by decide) v n xs hs hown ⟨g,0,none⟩ m cap ys (by rw [hx,hu]) hl (hsrc.cells (g:=g) (by rw [hu]; rfl)) h1 h63 hbytes hbase
     (fun v' w' h2 h3 _ => h v' w' h2 h3)
def Yl (nm : Key) (l : List (Key × Ae)) (n : Nat) : List (List UInt8):=match Ak (Af nm n) l with | some f => (BI f.bytes).1 | none => []
def EM (nm : Key) (l : List (Key × Ae)) (ns : List Nat) : List (List UInt8):=ns.flatMap (Yl nm l)
theorem Vr {nm : Key} {l : List (Key × Ae)} {ns : List Nat} {k : Nat} (h : k < ns.length) : EM nm l (ns.take (k + 1)) = EM nm l (ns.take k) ++ Yl nm l ns[k]:=by
 unfold EM
 rw [List.take_succ_eq_append_getElem h,List.flatMap_append]
 simp
theorem Uh (nm : Key) (l : List (Key × Ae)) (ns : List Nat) (k : Nat) : (EM nm l (ns.take k)).length <= (EM nm l ns).length:=by
 have : EM nm l ns = EM nm l (ns.take k) ++ EM nm l (ns.drop k):=by unfold EM; rw [<- List.flatMap_append,List.take_append_drop]
 rw [this,List.length_append]; omega
theorem Abk (l : List (List UInt8)) : ∀ u ∈ l.map tx,u.oneCell' = true:=by
 intro u hu
 obtain ⟨x,_,rfl⟩:=List.mem_map.1 hu
 rfl
theorem Lw {ns : List Nat} {k : Nat} (h : k < ns.length) : (Qa ns).getD k undef = .int .i64 (ns[k] : Int):=by
 simp [List.getD,Qa,h]
theorem Hm (nm : ByteArray) (n : Nat) (h : nm.size <= 8) : (Lh nm n).size <= maxLen:=by rw [Xz]; unfold maxLen; omega
theorem tx_of {x : ByteArray} {l : List UInt8} (h : x = ⟨l.toArray⟩) : tx l = .string x:=by rw [h]; rfl
def Aa9 (w : World) (nm : Key) (l : List (Key × Ae)) (ns : List Nat) (e : Ending) (w' : World) : Prop:=
 ∃ v,e = .returned (.tuple #[v,.int .i64 0]) /\ w'.ownsRow w.heap.size 9 1 v (EM nm l ns).length ((EM nm l ns).map tx) /\ Below w.heap.size w w'
end
section
open Go.RowKit Go.Maps Go.WideMaps Go.Shelf
theorem scanL_count : ∀ (n : Nat) (l : List UInt8),l.length <= n -> (BI l).1.length <= l.length:=by
 intro n
 induction n with
 | zero =>
   intro l h
   rw [BI]
   split
   · rename_i h0
     have:=(In h0).1
     omega
   · simp
 | succ n ih =>
   intro l h
   rw [BI]
   split
   · rename_i h0
     have h1:=(In h0).1
     have:=ih _ (by omega : (BQ l).2.2.length <= n)
     simp only [List.length_cons]
     omega
   · simp
theorem MA (nm : Key) (l : List (Key × Ae)) : (DH nm l).length <= weigh l:=by
 induction l with
 | nil => simp [DH]
 | cons x r ih =>
   have h1:=scanL_count _ x.2.bytes (Nat.le_refl _)
   unfold DH weigh at *
   rw [List.flatMap_cons,List.length_append,List.map_cons,List.sum_cons]
   split
   · simp only [List.length_nil]; omega
   · omega
theorem Lb {α : Type} {l : List (Key × α)} (h : AA l) {x : Key × α} (hx : x ∈ l) : Ak x.1 l = some x.2:=by
 induction l with
 | nil => cases hx
 | cons y r ih =>
   obtain ⟨h1,h2⟩:=List.pairwise_cons.1 h
   rw [Bi]
   rcases List.mem_cons.1 hx with rfl | hx
   · rw [if_pos rfl]
   · have hb:=h1 x hx
     rw [if_neg (fun e => by rw [e,FW] at hb; cases hb)]
     exact ih h2 hx
theorem NR {nm : Key} {l : List (Key × Ae)} {n : Nat} (h : n ∈ AC nm l) : ∃ x ∈ l,AB nm x.1 = n /\ n ≠ 0:=by
 unfold AC at h
 obtain ⟨h1,h2⟩:=List.mem_filter.1 h
 obtain ⟨x,hx,rfl⟩:=List.mem_map.1 h1
 exact ⟨x,hx,rfl,by have:=of_decide_eq_true h2; omega⟩
theorem TQ {nm : Key} {l : List (Key × Ae)} (h : AA l) : EM nm l (AC nm l) = DH nm l:=by
 rw [N6,Mw]
 unfold EM
 rw [List.flatMap_map]
 have key : ∀ m : List (Key × Ae),(∀ x ∈ m,x ∈ l /\ AB nm x.1 ≠ 0) -> m.flatMap (fun x => Yl nm l (AB nm x.1)) = m.flatMap fun x => (BI x.2.bytes).1:=by
  intro m hm
  induction m with
  | nil => rfl
  | cons y r ih =>
    obtain ⟨h1,h2⟩:=hm y (by simp)
    rw [List.flatMap_cons,List.flatMap_cons,ih (fun x hx => hm x (List.mem_cons_of_mem _ hx))]
    congr 1
    unfold Yl
    rw [<- (JL h2).1,Lb h h1]
 refine key _ (fun x hx => ?_)
 unfold BG at hx
 obtain ⟨h1,h2⟩:=List.mem_filter.1 hx
 exact ⟨h1,by simpa using h2⟩
theorem AD.rising {w : World} {p : Nat} {S : Bx} {F : Nat -> Prop} (h : AD w p S F) : AA S.files:=by
 obtain ⟨m,es,h⟩:=h
 rw [h.files]
 exact (Kj Bu.file).2 h.rising
theorem Xc {nm : Key} {l : List (Key × Ae)} (h : (AC nm l).length = 0) : F8 nm l = 1:=by
 unfold F8
 rw [List.eq_nil_of_length_eq_zero h]; rfl
theorem Ua {nm : Key} {l : List (Key × Ae)} (h : 0 < (AC nm l).length) : F8 nm l = (AC nm l)[(AC nm l).length - 1] + 1:=by
 unfold F8
 have hne : AC nm l ≠ []:=by intro e; rw [e] at h; simp at h
 rw [List.getLastD_eq_getLast?,List.getLast?_eq_some_getLast hne,Option.getD_some,List.getLast_eq_getElem]
def Abq (w : World) (p : Nat) (nm : ByteArray) (S : Bx) (F : Nat -> Prop) (e : Ending) (w' : World) : Prop:=
 ∃ q v,e = .returned (.tuple #[.pointer (some ⟨q,0,none⟩),v,.int .i64 0]) /\ w.heap.size <= q /\ AY w' q p nm (F8 nm.data.toList S.files) false S F /\
  w'.ownsRow w.heap.size 9 1 v (DH nm.data.toList S.files).length ((DH nm.data.toList S.files).map tx) /\ Below w.heap.size w w'
theorem Y6 {w w1 : World} {p : Nat} {nm : ByteArray} {S : Bx} {F : Nat -> Prop} (h : AD w p S F) (hF : ∀ k,F k -> k < w.heap.size) (ht : Tab w) (hg : ¬ F 3) (h1 : 1 <= nm.size) (h8 : nm.size <= 8) (hb : Below w.heap.size w w1) :
 AY (w1.alloc (.cells #[.pointer (some ⟨p,0,none⟩),.string nm,.int .i64 1,.bool false] 117)) w1.heap.size p nm 1 false S F:=by
 have hs:=hb.size
 have hl:=ht.lt
 have hb2:=hb.alloc hs (.cells #[.pointer (some ⟨p,0,none⟩),.string nm,.int .i64 1,.bool false] 117)
 exact ⟨h.below hb2,heap_alloc_new _ _,fun hk => by have:=hF _ hk; omega,h1,h8,by omega,by omega,ht.below hb2,hg,by omega⟩
end
section
open Go.RowKit Go.Maps Go.WideMaps Go.Shelf
section
variable {w w1 w2 : World} {q p c : Nat} {nm : ByteArray} {a : Bool} {S S' : Bx} {F G : Nat -> Prop}
theorem AY.wide (h : AY w2 q p nm c a S (AK F w1 w2)) (hs : w.heap.size <= w1.heap.size) (hq : ¬ AK F w w2 q) (hg : ¬ AK F w w2 3) : AY w2 q p nm c a S (AK F w w2):=
 ⟨h.box.mono (fun k hk => by rcases hk with hk | hk; exact .inl hk; exact .inr ⟨by omega,hk.2⟩),h.head,hq,h.nm1,h.nm8,h.cur1,h.cur8,h.tab,hg,h.qg⟩
theorem AY.step (h : AY w q p nm c a S F) (b1 : Below w.heap.size w w1) (hb : AD w2 p S' (AK F w1 w2)) (t : Ac F w1 w2) : AY w2 q p nm c a S' (AK F w w2) /\ Ac F w w2:=by
 have hs:=b1.size
 have hq:=h.head.lt
 have hg:=h.tab.lt
 have h2:=(h.below b1).onBox hb t
 exact ⟨h2.wide hs (fun hk => by rcases hk with hk | hk; exact h.nq hk; omega) (fun hk => by rcases hk with hk | hk; exact h.ng hk; omega),(Ac.of_below F b1).trans t (fun i hi => .inl hi)⟩
theorem AY.step' (h : AY w q p nm c a S F) (b1 : Below w.heap.size w w1) (hb : AD w2 p S' F) (t : Ac F w1 w2) : AY w2 q p nm c a S' F /\ Ac F w w2:=
 ⟨⟨hb,(h.head.below b1).turn t h.nq,h.nq,h.nm1,h.nm8,h.cur1,h.cur8,(h.tab.below b1).turn t h.ng,h.ng,h.qg⟩,(Ac.of_below F b1).trans t (fun i hi => .inl hi)⟩
end
theorem AY.wide' {w w2 w3 : World} {q p c : Nat} {nm : ByteArray} {a : Bool} {S : Bx} {F : Nat -> Prop} (h : AY w3 q p nm c a S (AK F w w2)) (hs : w3.heap.size = w2.heap.size) : AY w3 q p nm c a S (AK F w w3):=by
 have e : AK F w w3 = AK F w w2:=by funext k; unfold AK; rw [hs]
 rw [e]; exact h
theorem LO {w w' : World} {p : Nat} {S : Bx} {F : Nat -> Prop} (h : AD w' p S F) : AD w' p S (AK F w w'):=h.mono (fun k hk => .inl hk)
def NY (F : Nat -> Prop) (q k : Nat) : Prop:=F k \/ k = q
theorem Lm {F : Nat -> Prop} {q : Nat} {w w' : World} (t : Ac F w w') : Ac (NY F q) w w':=t.mono (fun i hi => .inl (.inl hi))
set_option maxHeartbeats 1000000 in
set_option maxRecDepth 100000 in
theorem Uk {w : World} {q p c : Nat} {nm : ByteArray} {a : Bool} {S : Bx} {F : Nat -> Prop} (h : AY w q p nm c a S F) (r : ByteArray) (hr : r.size <= 1048576) (hz : weigh S.files <= 70368744177664) :
 Calls Tryz.prog 118 #[.pointer (some ⟨q,0,none⟩),.string r] w fun e w' => e = .returned (.int .i64 (S.append (Af nm.data.toList c) (Ai r.data.toList)).2) /\
  AY w' q p nm c (if (S.append (Af nm.data.toList c) (Ai r.data.toList)).2 = 0 then true else a) (S.append (Af nm.data.toList c) (Ai r.data.toList)).1 (AK F w w') /\ Ac (NY F q) w w':=by
 obtain ⟨x,hx⟩ : ∃ x : ByteArray,x = ⟨(Ai r.data.toList).toArray⟩:=⟨_,rfl⟩
 have hxd : x.data.toList = Ai r.data.toList:=by rw [hx]
 have hxs : x.size <= 1048590:=by
  rw [hx]
  show (Ai r.data.toList).toArray.size <= _
  rw [List.size_toArray]
  have:=Fj (l:=r.data.toList) (by rw [Array.length_toList]; exact hr)
  have e : r.data.toList.length = r.size:=by rw [Array.length_toList]; rfl
  omega
 have hwr:=Og r hr
 rw [<- hx] at hwr
 rw [<- hxd]
 obtain ⟨R,hR⟩ : ∃ R,S.append (Af nm.data.toList c) x.data.toList = R:=⟨_,rfl⟩
 rw [hR]
 obtain ⟨S2,e2⟩:=R
 have HR:=Lib.hid hR
 have H:=Lib.hid h
 have HWR:=Lib.hid hwr
 have hzz : weigh S.files + x.size <= 140737488355328:=by omega
 clear hwr hx hxd h hR
 simp only
 by_cases he : e2 = 0
 · subst he
   rw [if_pos rfl]
   go_enter Tryz.func118,Tryz.ntmps118
   go_wp2_with fail
   refine (HWR.out _).mono ?_
   rintro e w1 ⟨rfl,b1⟩
   have B1:=Lib.hid b1
   have H1:=Lib.hid (H.out.below b1)
   have c0:=H1.out.head.c0
   have c2:=H1.out.head.c2
   clear b1
   go_upto_region 6 with (fail)
   go_region_held3 (fun w' => w'.cell? ⟨q,0,none⟩ = some (.pointer (some ⟨p,0,none⟩)) /\ w'.cell? ⟨q,2,none⟩ = some (.int .i64 (c : Int))) (first | exact ⟨c0,c2⟩ | exact ⟨c0a,c2a⟩ | exact ⟨c0b,c2b⟩)
    (first
    | (go_at_call 95; refine (Hy H1.out.drew.head H1.out.nm8 H1.out.drew.tab c H1.out.cur8).mono ?_; rintro e w2 ⟨rfl,b2⟩; have B2:=Lib.hid (Cu b2); have H2:=Lib.hid (H1.out.drew.below b2); have c0a:=H2.out.head.c0; have c2a:=H2.out.head.c2; clear b2)
    | (go_at_call 28; have hap:=It H2.out.box (Lh nm c) x (Hm nm c H2.out.nm8) hzz; rw [Ex,HR.out] at hap; refine hap.mono ?_; rintro e w3 ⟨rfl,h3,t3⟩; have H3:=Lib.hid (H2.out.onBox h3 t3); have c0b:=H3.out.head.c0; have c2b:=H3.out.head.c2; have BT:=Lib.hid (And.intro h3 t3); clear h3 t3 hap))
   all_goals
    have hf3:=H3.out.head.free 3
    have c3b:=H3.out.head.c3
    have HS:=Lib.hid (H.out.step (A8 B1.out (Nat.le_refl _) B2.out) BT.out.1 BT.out.2)
    go_wp2
    go_ret
    refine ⟨rfl,?_,(Lm HS.out.2).trans LP (fun i hi => .inl (.inr hi))⟩
    exact (HS.out.1.setApp true).wide' (by simp [World.setCell])
 · have he2 : (e2 == 0) = false:=by simp [he]
   rw [if_neg he]
   go_enter Tryz.func118,Tryz.ntmps118
   go_wp2_with fail
   refine (HWR.out _).mono ?_
   rintro e w1 ⟨rfl,b1⟩
   have B1:=Lib.hid b1
   have H1:=Lib.hid (H.out.below b1)
   have c0:=H1.out.head.c0
   have c2:=H1.out.head.c2
   clear b1
   go_upto_region 6 with (fail)
   go_region_held3 (fun w' => w'.cell? ⟨q,0,none⟩ = some (.pointer (some ⟨p,0,none⟩)) /\ w'.cell? ⟨q,2,none⟩ = some (.int .i64 (c : Int))) (first | exact ⟨c0,c2⟩ | exact ⟨c0a,c2a⟩ | exact ⟨c0b,c2b⟩)
    (first
    | (go_at_call 95; refine (Hy H1.out.drew.head H1.out.nm8 H1.out.drew.tab c H1.out.cur8).mono ?_; rintro e w2 ⟨rfl,b2⟩; have B2:=Lib.hid (Cu b2); have H2:=Lib.hid (H1.out.drew.below b2); have c0a:=H2.out.head.c0; have c2a:=H2.out.head.c2; clear b2)
    | (go_at_call 28; have hap:=It H2.out.box (Lh nm c) x (Hm nm c H2.out.nm8) hzz; rw [Ex,HR.out] at hap; refine hap.mono ?_; rintro e w3 ⟨rfl,h3,t3⟩; have H3:=Lib.hid (H2.out.onBox h3 t3); have c0b:=H3.out.head.c0; have c2b:=H3.out.head.c2; have BT:=Lib.hid (And.intro h3 t3); clear h3 t3 hap))
   all_goals
    have HS:=Lib.hid (H.out.step (A8 B1.out (Nat.le_refl _) B2.out) BT.out.1 BT.out.2)
    go_wp2
    go_ret
    exact ⟨rfl,HS.out.1,Lm HS.out.2⟩
set_option maxHeartbeats 1000000 in
set_option maxRecDepth 100000 in
theorem Rl {w : World} {q p c : Nat} {nm : ByteArray} {S : Bx} {F : Nat -> Prop} (h : AY w q p nm c false S F) :
 Calls Tryz.prog 119 #[.pointer (some ⟨q,0,none⟩)] w fun e w' => e = .returned (.int .i64 0) /\ w = w':=by
 have c3:=h.head.c3
 clear h
 go_enter Tryz.func119,Tryz.ntmps119
 go_wp2
 go_ret
 exact ⟨rfl,rfl⟩
set_option maxHeartbeats 1000000 in
set_option maxRecDepth 100000 in
theorem N0 {w : World} {q p c : Nat} {nm : ByteArray} {S : Bx} {F : Nat -> Prop} (h : AY w q p nm c true S F) :
 Calls Tryz.prog 119 #[.pointer (some ⟨q,0,none⟩)] w fun e w' => e = .returned (.int .i64 (S.sync (Af nm.data.toList c)).2) /\
  AY w' q p nm c true (S.sync (Af nm.data.toList c)).1 F /\ Ac F w w':=by
 obtain ⟨R,hR⟩ : ∃ R,S.sync (Af nm.data.toList c) = R:=⟨_,rfl⟩
 rw [hR]
 obtain ⟨S2,e2⟩:=R
 have HR:=Lib.hid hR
 have H:=Lib.hid h
 have c0:=h.head.c0
 have c2:=h.head.c2
 have c3:=h.head.c3
 clear hR h
 simp only
 go_enter Tryz.func119,Tryz.ntmps119
 go_upto_region 5 with (fail)
 go_region_held3 (fun w' => w'.cell? ⟨q,0,none⟩ = some (.pointer (some ⟨p,0,none⟩)) /\ w'.cell? ⟨q,2,none⟩ = some (.int .i64 (c : Int))) (first | exact ⟨c0,c2⟩ | exact ⟨c0a,c2a⟩ | exact ⟨c0b,c2b⟩)
  (first
  | (go_at_call 95; refine (Hy H.out.drew.head H.out.nm8 H.out.drew.tab c H.out.cur8).mono ?_; rintro e w2 ⟨rfl,b2⟩; have B2:=Lib.hid (Cu b2); have H2:=Lib.hid (H.out.drew.below b2); have c0a:=H2.out.head.c0; have c2a:=H2.out.head.c2; clear b2)
  | (go_at_call 29; have hap:=Nx H2.out.box (Lh nm c) (Hm nm c H2.out.nm8); rw [Ex,HR.out] at hap; refine hap.mono ?_; rintro e w3 ⟨rfl,h3,t3⟩; have H3:=Lib.hid (H2.out.onBox (LO h3) t3); have c0b:=H3.out.head.c0; have c2b:=H3.out.head.c2; have BT:=Lib.hid (And.intro h3 t3); clear h3 t3 hap))
 all_goals
  have HS:=Lib.hid (H.out.step' B2.out BT.out.1 BT.out.2)
  go_wp2
  go_ret
  exact ⟨rfl,HS.out.1,HS.out.2⟩
end
section
open Go.RowKit Go.Maps Go.WideMaps Go.Shelf
theorem AY.next {w : World} {q p c : Nat} {nm : ByteArray} {a : Bool} {S : Bx} {F : Nat -> Prop} (h : AY w q p nm c a S F) (hc : c < 99999999) :
 AY ((w.setCell ⟨q,2,none⟩ (.int .i64 ((c : Int) + 1))).setCell ⟨q,3,none⟩ (.bool false)) q p nm (c + 1) false S F /\ Ac (NY F q) w ((w.setCell ⟨q,2,none⟩ (.int .i64 ((c : Int) + 1))).setCell ⟨q,3,none⟩ (.bool false)):=by
 have h1 : AY (w.setCell ⟨q,2,none⟩ (.int .i64 ((c : Int) + 1))) q p nm (c + 1) a S F:=h.setTo (d:=c + 1) (by omega) (by omega)
 refine ⟨h1.setApp false,?_⟩
 exact (((Ac.refl (NY F q) w).setCell (p:=⟨q,2,none⟩) (.inl (.inr rfl)) _).setCell (p:=⟨q,3,none⟩) (.inl (.inr rfl)) _)
set_option maxHeartbeats 1000000 in
set_option maxRecDepth 100000 in
theorem Lp {w : World} {q p c : Nat} {nm : ByteArray} {S : Bx} {F : Nat -> Prop} (h : AY w q p nm c false S F) (hc : c < 99999999) :
 Calls Tryz.prog 110 #[.pointer (some ⟨q,0,none⟩)] w fun e w' => e = .returned (.tuple #[.int .i64 (c : Int),.int .i64 0]) /\ AY w' q p nm (c + 1) false S F /\ Ac (NY F q) w w':=by
 have c2:=h.head.c2
 have c3:=h.head.c3
 have f2:=h.head.free 2
 have f3:=h.head.free 3
 have HN:=Lib.hid (h.next hc)
 have H:=Lib.hid h
 have hne : ¬ (c : Int) = 99999999:=by omega
 clear h
 go_enter Tryz.func110,Tryz.ntmps110
 go_wp2_with fail
 refine (Rl H.out).mono ?_
 rintro e w1 ⟨rfl,rfl⟩
 go_wp2
 go_ret2
 exact ⟨rfl,HN.out.1,HN.out.2⟩
set_option maxHeartbeats 1000000 in
set_option maxRecDepth 100000 in
theorem OP {w : World} {q p c : Nat} {nm : ByteArray} {S : Bx} {F : Nat -> Prop} (h : AY w q p nm c true S F) (hc : c < 99999999) (he : (S.sync (Af nm.data.toList c)).2 ≠ 0) :
 Calls Tryz.prog 110 #[.pointer (some ⟨q,0,none⟩)] w fun e w' => e = .returned (.tuple #[.int .i64 0,.int .i64 (S.sync (Af nm.data.toList c)).2]) /\ AY w' q p nm c true (S.sync (Af nm.data.toList c)).1 F /\ Ac F w w':=by
 have c2:=h.head.c2
 have hs:=N0 h
 have hne : ¬ (c : Int) = 99999999:=by omega
 obtain ⟨R,hR⟩ : ∃ R,S.sync (Af nm.data.toList c) = R:=⟨_,rfl⟩
 rw [hR] at he hs ⊢
 obtain ⟨S2,e2⟩:=R
 simp only at he hs ⊢
 have he2 : (e2 == 0) = false:=by simp [he]
 clear h hR
 go_enter Tryz.func110,Tryz.ntmps110
 go_wp2_with fail
 refine hs.mono ?_
 rintro e w1 ⟨rfl,h1,t1⟩
 go_wp2
 go_ret2
 exact ⟨rfl,h1,t1⟩
set_option maxHeartbeats 1000000 in
set_option maxRecDepth 100000 in
theorem Ui {w : World} {q p c : Nat} {nm : ByteArray} {S : Bx} {F : Nat -> Prop} (h : AY w q p nm c true S F) (hc : c < 99999999) (he : (S.sync (Af nm.data.toList c)).2 = 0) :
 Calls Tryz.prog 110 #[.pointer (some ⟨q,0,none⟩)] w fun e w' => e = .returned (.tuple #[.int .i64 (c : Int),.int .i64 0]) /\ AY w' q p nm (c + 1) false (S.sync (Af nm.data.toList c)).1 F /\ Ac (NY F q) w w':=by
 have c2:=h.head.c2
 have hs:=N0 h
 have hne : ¬ (c : Int) = 99999999:=by omega
 obtain ⟨R,hR⟩ : ∃ R,S.sync (Af nm.data.toList c) = R:=⟨_,rfl⟩
 rw [hR] at he hs ⊢
 obtain ⟨S2,e2⟩:=R
 simp only at he hs ⊢
 subst he
 clear h hR
 go_enter Tryz.func110,Tryz.ntmps110
 go_wp2_with fail
 refine hs.mono ?_
 rintro e w1 ⟨rfl,h1,t1⟩
 have c2a:=h1.head.c2
 have c3a:=h1.head.c3
 have f2:=h1.head.free 2
 have f3:=h1.head.free 3
 have HN:=Lib.hid (h1.next hc)
 have T:=Lib.hid t1
 clear h1 t1 c2
 go_wp2
 go_ret2
 exact ⟨rfl,HN.out.1,(Lm T.out).trans HN.out.2 (fun i hi => .inl hi)⟩
set_option maxHeartbeats 1000000 in
set_option maxRecDepth 100000 in
theorem ZY {w : World} {q p c : Nat} {nm : ByteArray} {a : Bool} {S : Bx} {F : Nat -> Prop} (h : AY w q p nm c a S F) (hF : ∀ k,F k -> k < w.heap.size) (hd : S.down = false) (hl : S.files.length <= 8796093022208) (u : Int) (hu : u < (c : Int)) :
 Calls Tryz.prog 112 #[.pointer (some ⟨q,0,none⟩),.int .i64 u] w fun e w' => e = .returned (.int .i64 (BU nm.data.toList u (AC nm.data.toList S.files) S).2) /\
  AY w' q p nm c a (BU nm.data.toList u (AC nm.data.toList S.files) S).1 F /\ Ac F w w':=by
 have c2:=h.head.c2
 have hsg:=Ku h hl
 have hsl:=J6 nm.data.toList S.files
 have hns : ∀ n ∈ AC nm.data.toList S.files,n <= 99999999:=by
  intro n hn
  obtain ⟨x,_,rfl,_⟩:=NR hn
  have:=Iz nm.data.toList x.1
  omega
 have hd0 : (if S.down then (30 : Int) else 0) = 0:=by rw [hd]; rfl
 have hf : (if S.down then [] else AC nm.data.toList S.files) = AC nm.data.toList S.files:=by rw [hd]; rfl
 unfold MD at hsg
 rw [hd0,hf] at hsg
 generalize AC nm.data.toList S.files = ns at *
 have hnl : ns.length <= 8796093022208:=by omega
 have H:=Lib.hid h
 have HF:=Lib.hid hF
 have HNS:=Lib.hid hns
 obtain ⟨R,hR⟩ : ∃ R,BU nm.data.toList u ns S = R:=⟨_,rfl⟩
 rw [hR]
 obtain ⟨S2,e2⟩:=R
 have HR:=Lib.hid hR
 clear h hF hns hd0 hf hd hl hsl hR
 simp only
 go_enter Tryz.func112,Tryz.ntmps112
 go_wp2_with fail
 refine hsg.mono ?_
 rintro e w1 ⟨v,rfl,ho,hb⟩
 obtain ⟨ra,rc,rfl⟩:=CT ho
 have HO:=Lib.hid ho
 have HB:=Lib.hid hb
 have H1:=Lib.hid (H.out.below hb)
 clear ho hb c2 hsg
 go_wp2
 go_loopw [30] (fun iv wr => ∃ (k : Nat) (T : Bx),k <= ns.length /\ iv = .int .i64 (k : Int) /\ Hid (BU nm.data.toList u (ns.drop k) T = (S2,e2)) /\ Hid (AY wr q p nm c a T F) /\ Hid (Ac F w1 wr)) (fun iv _ => ns.length - (intOf iv).toNat)
 case atStart => exact ⟨0,S,by omega,rfl,HR.out,H1.out,Ac.refl _ _⟩
 case round =>
  obtain ⟨k,T,hk,rfl,HT,HL,HTu⟩:=hrel
  by_cases hlt : k < ns.length
  · obtain ⟨ra',rc',hv,hRow⟩:=KS (HTu.out.row HO.out (fun j hj hf => by have:=(HO.out.lt j hj).1; have:=HF.out j hf; omega)) (by omega)
    injection hv with e1 _ e3
    subst e1; subst e3
    obtain ⟨b,off,rfl,hbl,hcell⟩:=hRow.at hlt
    rw [Lw hlt] at hcell
    have hn8:=HNS.out _ (List.getElem_mem hlt)
    have hdr : Hid (ns.drop k = ns[k] :: ns.drop (k + 1)):=List.drop_eq_getElem_cons hlt
    generalize ns[k] = n at *
    have HT2 : Hid (BU nm.data.toList u (n :: ns.drop (k + 1)) T = (S2,e2)):=by rw [<- hdr.out]; exact HT
    clear HT hdr hRow hbl
    by_cases hgt : u < (n : Int)
    · have hend : Hid (T = S2 /\ (0 : Int) = e2):=by
        have:=HT2.out
        unfold BU at this
        rw [if_pos hgt] at this
        injection this with g1 g2
        exact ⟨g1,g2⟩
      go_wp2
      go_ret
      rw [<- hend.out.1,<- hend.out.2]
      exact ⟨rfl,HL.out,(Ac.of_below F HB.out).trans HTu.out (fun i hi => .inl hi)⟩
    · have hngt : (n : Int) <= u:=by omega
      have c0:=HL.out.head.c0
      have hT3:=HT2.out
      unfold BU at hT3
      rw [if_neg hgt] at hT3
      obtain ⟨D,hD⟩ : ∃ D,T.delete (Af nm.data.toList n) = D:=⟨_,rfl⟩
      rw [hD] at hT3
      obtain ⟨T2,e3⟩:=D
      simp only at hT3
      have HD:=Lib.hid hD
      clear hgt hD HT2
      by_cases he : e3 = 0
      · subst he
        rw [if_pos rfl] at hT3
        have HT3:=Lib.hid hT3
        clear hT3
        go_wp2
        go_region_held3 (fun w' => w'.cell? ⟨q,0,none⟩ = some (.pointer (some ⟨p,0,none⟩))) (first | exact c0 | exact c0a | exact c0b)
         (first
         | (go_at_call 95; refine (Hy HL.out.drew.head HL.out.nm8 HL.out.drew.tab n hn8).mono ?_; rintro e w2 ⟨rfl,b2⟩; have B2:=Lib.hid (Cu b2); have H2:=Lib.hid (HL.out.drew.below b2); have c0a:=H2.out.head.c0; clear b2)
         | (go_at_call 76; have hap:=Ko H2.out.box (Lh nm n) (Hm nm n H2.out.nm8); rw [Ex,HD.out] at hap; refine hap.mono ?_; rintro e w3 ⟨rfl,h3,t3⟩; have H3:=Lib.hid (H2.out.onBox (LO h3) t3); have c0b:=H3.out.head.c0; have BT:=Lib.hid (And.intro h3 t3); clear h3 t3 hap))
        all_goals
         have HS:=Lib.hid (HL.out.step' B2.out BT.out.1 BT.out.2)
         have HTu2:=Lib.hid (HTu.out.trans HS.out.2 (fun i hi => .inl hi))
         have HL2:=Lib.hid HS.out.1
         clear hcell
         go_wp2
         go_roundw
         case rel => exact ⟨k + 1,T2,by omega,by go_num,HT3,HL2,HTu2⟩
         case measure => simp [intOf]; omega
      · rw [if_neg he] at hT3
        have he2 : (e3 == 0) = false:=by simp [he]
        have HT3:=Lib.hid hT3
        clear hT3
        go_wp2
        go_region_held3 (fun w' => w'.cell? ⟨q,0,none⟩ = some (.pointer (some ⟨p,0,none⟩))) (first | exact c0 | exact c0a | exact c0b)
         (first
         | (go_at_call 95; refine (Hy HL.out.drew.head HL.out.nm8 HL.out.drew.tab n hn8).mono ?_; rintro e w2 ⟨rfl,b2⟩; have B2:=Lib.hid (Cu b2); have H2:=Lib.hid (HL.out.drew.below b2); have c0a:=H2.out.head.c0; clear b2)
         | (go_at_call 76; have hap:=Ko H2.out.box (Lh nm n) (Hm nm n H2.out.nm8); rw [Ex,HD.out] at hap; refine hap.mono ?_; rintro e w3 ⟨rfl,h3,t3⟩; have H3:=Lib.hid (H2.out.onBox (LO h3) t3); have c0b:=H3.out.head.c0; have BT:=Lib.hid (And.intro h3 t3); clear h3 t3 hap))
        all_goals
         have HS:=Lib.hid (HL.out.step' B2.out BT.out.1 BT.out.2)
         have HTu2:=Lib.hid ((Ac.of_below F HB.out).trans (HTu.out.trans HS.out.2 (fun i hi => .inl hi)) (fun i hi => .inl hi))
         have HL2:=Lib.hid HS.out.1
         clear hcell
         go_wp2
         go_ret
         have h9:=HT3.out
         injection h9 with g1 g2
         rw [<- g1,<- g2]
         exact ⟨rfl,HL2.out,HTu2.out⟩
  · obtain rfl : k = ns.length:=by omega
    have hend : Hid (T = S2 /\ (0 : Int) = e2):=by
     have:=HT.out
     rw [List.drop_length] at this
     unfold BU at this
     injection this with g1 g2
     exact ⟨g1,g2⟩
    clear HT
    go_wp2
    go_ret
    rw [<- hend.out.1,<- hend.out.2]
    exact ⟨rfl,HL.out,(Ac.of_below F HB.out).trans HTu.out (fun i hi => .inl hi)⟩
end
section
open Go.RowKit Go.Maps Go.WideMaps Go.Shelf
section
variable {B : Nat} {w w' : World} {q p c : Nat} {nm : ByteArray} {a : Bool} {S : Bx}
end
section
variable {B : Nat} {w : World} {q p c : Nat} {nm : ByteArray} {a : Bool} {S : Bx}
end
end
section
open Go.RowKit Go.Maps Go.WideMaps Go.Shelf
section
variable {B : Nat} {w w' : World} {q p : Nat} {nm : ByteArray} {fs : List Ae} {last : List (List UInt8)} {d N : Nat}
end
end
section
open Go.RowKit Go.Maps Go.WideMaps Go.Shelf
set_option maxHeartbeats 1000000 in
set_option maxRecDepth 100000 in
theorem Xe (s : ByteArray) (hs : s.size <= 4398046511104) (w : World) :
 Calls Tryz.prog 96 #[.string s] w fun e w' => MN w s e w':=by
 obtain ⟨i0,hi,hz0,hz1,hz2⟩:=info_parts infoStr
 go_enter Tryz.func96,Tryz.ntmps96
 go_wp2
 refine wp_scope_jumps 0 (Zh w s) (fun a' _ => Aae a') rfl ?_ ?_
 · go_wp2
   go_step3
   have hz : DP s [] s /\ w.ownsRow w.heap.size 9 1 (.slice none 0 0) ([] : List (List UInt8)).length (([] : List (List UInt8)).map tx) /\ Below w.heap.size w w:=⟨DP.start s,World.ownsRow_nil _ _ _ _,Below.refl _ _⟩
   obtain ⟨hr,hown,hb⟩:=hz
   have hlen:=hr.len
   have hsz:=hb.size
   go_wp2_with fail
   refine (KE _ (by omega) _).mono ?_
   rintro e w1 ⟨he,hb1⟩
   have hown1:=Ah hown hb1
   have hb2:=A8 hb (Nat.le_refl _) hb1
   have hsz1:=hb2.size
   clear hown hb hb1 hsz
   rcases he with ⟨a,r,hn,rfl⟩ | ⟨k,hk,hn,rfl⟩
   · obtain ⟨hr2,hlt⟩:=hr.next hn
     have hlen2:=hr2.len
     rw [List.length_append,List.length_singleton] at hlen2
     clear hn
     go_wp2_with (first
      | (at_builtin; refine wpList_append_own _ rfl (.tmp 18) (.tmp 20) 75 rfl w.heap.size 9 i0 (.string ⟨#[]⟩) 1 16 Tryz.underlying75 hi hz0 hz1 hz2 rfl (by decide) _ _ _ rfl (hown1.alloc _) ⟨w1.heap.size,0,none⟩ 1 1 [.string a] rfl rfl ?c1 ?c2 ?c3 ?c4 ?c5 ?_))
     case c1 => exact Fx _ _ _
     case c2 => exact MH a
     case c3 => unfold maxLen; omega
     case c4 => omega
     case c5 => simp; omega
     intro v' w2 hown' hgrow _
     have hown2 : w2.ownsRow w.heap.size 9 1 v' (([] : List (List UInt8)) ++ [a.data.toList]).length ((([] : List (List UInt8)) ++ [a.data.toList]).map tx):=by
      rw [List.length_append,List.map_append,List.map_singleton,MQ]
      exact hown'
     have hb3:=(hb2.alloc hsz1 _).grown hgrow (by simp; omega) (fun k hk => (hown1.lt k hk).1)
     clear hown1 hown' hgrow hb2 hi
     go_wp2
     go_step3
     exact ⟨rfl,r,_,v',_,_,_,_,_,_,_,_,_,_,_,_,_,_,_,_,_,rfl,hr2,hown2,hb3⟩
   · have hk0 : ((k : Int) == 0) = false:=by simp; omega
     have hend:=Lib.hid (Le hr hk hn hown1 hb2)
     clear hn hown1 hb2 hr
     go_wp2
     simp only [Exit.jump]
     go_ret2
     have hend2:=hend.out
     rw [show ((s.size : Int) - (s.size : Int)) = 0 by omega] at hend2
     exact hend2
 · rintro a' wr ⟨t,done,v,u6,u7,u8,u9,u10,u11,u12,u13,u14,u15,u16,u17,u18,u19,u20,u21,u22,rfl,hr,hown,hb⟩
   have hlen:=hr.len
   have hsz:=hb.size
   go_wp2_with fail
   refine (KE _ (by omega) _).mono ?_
   rintro e w1 ⟨he,hb1⟩
   have hown1:=Ah hown hb1
   have hb2:=A8 hb (Nat.le_refl _) hb1
   have hsz1:=hb2.size
   clear hown hb hb1 hsz
   rcases he with ⟨a,r,hn,rfl⟩ | ⟨k,hk,hn,rfl⟩
   · obtain ⟨hr2,hlt⟩:=hr.next hn
     have hlen2:=hr2.len
     rw [List.length_append,List.length_singleton] at hlen2
     clear hn
     go_wp2_with (first
      | (at_builtin; refine wpList_append_own _ rfl (.tmp 18) (.tmp 20) 75 rfl w.heap.size 9 i0 (.string ⟨#[]⟩) 1 16 Tryz.underlying75 hi hz0 hz1 hz2 rfl (by decide) _ _ _ rfl (hown1.alloc _) ⟨w1.heap.size,0,none⟩ 1 1 [.string a] rfl rfl ?c1 ?c2 ?c3 ?c4 ?c5 ?_))
     case c1 => exact Fx _ _ _
     case c2 => exact MH a
     case c3 => unfold maxLen; omega
     case c4 => omega
     case c5 => simp; omega
     intro v' w2 hown' hgrow _
     have hown2 : w2.ownsRow w.heap.size 9 1 v' (done ++ [a.data.toList]).length ((done ++ [a.data.toList]).map tx):=by
      rw [List.length_append,List.map_append,List.map_singleton,MQ]
      exact hown'
     have hb3:=(hb2.alloc hsz1 _).grown hgrow (by simp; omega) (fun k hk => (hown1.lt k hk).1)
     clear hown1 hown' hgrow hb2 hi
     go_wp2
     go_step3
     exact ⟨rfl,⟨r,_,v',_,_,_,_,_,_,_,_,_,_,_,_,_,_,_,_,_,rfl,hr2,hown2,hb3⟩,hlt⟩
   · have hk0 : ((k : Int) == 0) = false:=by simp; omega
     have hend:=Lib.hid (Le hr hk hn hown1 hb2)
     clear hn hown1 hb2 hr
     go_wp2
     simp only [Exit.jump]
     go_ret2
     exact hend.out
set_option maxHeartbeats 1000000 in
set_option maxRecDepth 100000 in
theorem NE {w : World} {q p c : Nat} {nm : ByteArray} {a : Bool} {S : Bx} {F : Nat -> Prop} (h : AY w q p nm c a S F) (hd : S.down = false) {b0 : Nat} {v : Value} {ns : List Nat} (hv : w.ownsRow b0 3 1 v ns.length (Qa ns))
 (hns : ∀ n ∈ ns,n <= 99999999 /\ ∃ f,Ak (Af nm.data.toList n) S.files = some f /\ f.bytes.length <= 4398046511104) (hl : (EM nm.data.toList S.files ns).length <= 8796093022208) (hn : ns.length <= 8796093022208) :
 Calls Tryz.prog 65 #[.pointer (some ⟨q,0,none⟩),v] w fun e w' => Aa9 w nm.data.toList S.files ns e w':=by
 obtain ⟨i0,hi,hz0,hz1,hz2⟩:=info_parts infoStr
 obtain ⟨ra,rc,rfl,hR⟩:=KS hv (by omega)
 have H:=Lib.hid h
 have HR:=Lib.hid hR
 have HNS:=Lib.hid hns
 have HD:=Lib.hid hd
 clear h hv hns hd hR
 go_enter Tryz.func65,Tryz.ntmps65
 go_wp2
 go_loopw [6,15] (fun nv iv wr => ∃ (k : Nat),k <= ns.length /\ iv = .int .i64 (k : Int) /\ Hid (wr.ownsRow w.heap.size 9 1 nv (EM nm.data.toList S.files (ns.take k)).length ((EM nm.data.toList S.files (ns.take k)).map tx)) /\ Hid (Below w.heap.size w wr)) (fun _ iv _ => ns.length - (intOf iv).toNat)
 case atStart => exact ⟨0,by omega,rfl,World.ownsRow_nil _ _ _ _,Below.refl _ _⟩
 case round =>
  obtain ⟨k,hk,rfl,HV,HB⟩:=hrel
  by_cases hlt : k < ns.length
  · obtain ⟨b,off,rfl,hcell⟩:=HR.out.in HB.out hlt
    rw [Lw hlt] at hcell
    obtain ⟨hn8,f,hf,hfz⟩:=HNS.out _ (List.getElem_mem hlt)
    have HT:=Lib.hid (Vr (nm:=nm.data.toList) (l:=S.files) hlt)
    have hm1:=Uh nm.data.toList S.files ns (k + 1)
    have hrn : Hid (Yl nm.data.toList S.files ns[k] = (BI f.bytes).1):=by show _ = _; unfold Yl; rw [hf]
    have hlen1 : (EM nm.data.toList S.files (ns.take k)).length + (BI f.bytes).1.length <= 8796093022208:=by
     have h1:=HT.out
     rw [hrn.out] at h1
     have h2:=congrArg List.length h1
     rw [List.length_append] at h2
     omega
    clear hm1
    generalize ns[k] = n at *
    have hH:=H.out.below HB.out
    have c0:=hH.head.c0
    have HH:=Lib.hid hH
    have HF:=Lib.hid hf
    have hqr:=hH.head.lt
    obtain ⟨x,hx⟩ : ∃ x : ByteArray,x = ⟨f.bytes.toArray⟩:=⟨_,rfl⟩
    have HX:=Lib.hid hx
    have hxs : x.size <= 4398046511104:=by
     rw [hx]
     show f.bytes.toArray.size <= _
     rw [List.size_toArray]; exact hfz
    clear hH hf hx hfz
    go_wp2
    go_region_held3 (fun w' => w'.cell? ⟨q,0,none⟩ = some (.pointer (some ⟨p,0,none⟩))) (first | exact c0 | exact c0a)
     (first
     | (go_at_call 95; refine (Hy HH.out.drew.head HH.out.nm8 HH.out.drew.tab n hn8).mono ?_; rintro e w1 ⟨rfl,b1⟩; have c0a:=(HH.out.drew.below b1).head.c0; have B1:=Lib.hid b1; have hrd:=Lg (HH.out.drew.below b1).box (Lh nm n) (Hm nm n HH.out.nm8); rw [Ex,Bx.read_some HD.out HF.out,tx_of HX.out] at hrd; have HRD:=Lib.hid hrd; clear b1 hrd)
     | (go_at_call 30; refine HRD.out.mono ?_; rintro e w2 ⟨rfl,rfl⟩))
    all_goals
     go_wp2_with fail
     refine (Xe x (by omega) _).mono ?_
     rintro e w3 ⟨fv,rfl,hfo,fb⟩
     have hxl : x.data.toList = f.bytes:=by rw [HX.out]
     rw [hxl] at hfo
     have B3:=Lib.hid (A8 (A8 HB.out (Nat.le_refl _) (Cu B1.out)) (Nat.le_refl _) fb)
     have hown1:=Ah (Ah HV.out (Cu B1.out)) fb
     have hsz3:=B3.out.size
     clear fb hxl c0 c0a hcell
     obtain ⟨fa,fc,rfl⟩:=CT hfo
     go_wp2_with (first
      | (at_builtin; refine Kd rfl (.tmp 38) (.tmp 39) 75 rfl w.heap.size 9 i0 (.string ⟨#[]⟩) 16 Tryz.underlying75 hi hz0 hz1 hz2 rfl _ _ _ rfl hown1 _ _ _ _ rfl hfo ?c1 ?c2 ?c3 ?c4 ?_))
     case c1 => exact Abk _
     case c2 => unfold maxLen; omega
     case c3 => omega
     case c4 => omega
     intro v' w4 hown' hgrow
     have HV2 : Hid (w4.ownsRow w.heap.size 9 1 v' (EM nm.data.toList S.files (ns.take (k + 1))).length ((EM nm.data.toList S.files (ns.take (k + 1))).map tx)):=by
      show World.ownsRow _ _ _ _ _ _ _
      rw [HT.out,hrn.out,List.length_append,List.map_append]
      exact hown'
     have HB4:=Lib.hid (B3.out.grown hgrow hsz3 (fun k hk => (hown1.lt k hk).1))
     clear hown1 hown' hgrow hfo
     go_wp2
     go_roundw
     case rel => exact ⟨k + 1,by omega,by go_num,HV2,HB4⟩
     case measure => simp [intOf]; omega
  · obtain rfl : k = ns.length:=by omega
    rw [List.take_length] at HV
    go_wp2
    go_ret2
    exact ⟨_,rfl,HV.out,HB.out⟩
set_option maxHeartbeats 1000000 in
set_option maxRecDepth 100000 in
theorem ZI {w : World} {p : Nat} {nm : ByteArray} {S : Bx} {F : Nat -> Prop} (h : AD w p S F) (hF : ∀ k,F k -> k < w.heap.size) (ht : Tab w) (hg : ¬ F 3) (h1 : 1 <= nm.size) (h8 : nm.size <= 8) (hd : S.down = false)
 (hc : F8 nm.data.toList S.files <= 99999999) (hz : ∀ x ∈ S.files,AB nm.data.toList x.1 ≠ 0 -> x.2.bytes.length <= 4398046511104) (hw : weigh S.files <= 8796093022208) :
 Calls Tryz.prog 32 #[.pointer (some ⟨p,0,none⟩),.string nm] w fun e w' => Abq w p nm S F e w':=by
 have hlw:=Fh S.files
 have hlen : S.files.length <= 8796093022208:=by omega
 have hsl:=J6 nm.data.toList S.files
 have hrc:=MA nm.data.toList S.files
 have HRR:=Lib.hid (TQ (nm:=nm.data.toList) h.rising)
 have HNS : Hid (∀ n ∈ AC nm.data.toList S.files,n <= 99999999 /\ ∃ f,Ak (Af nm.data.toList n) S.files = some f /\ f.bytes.length <= 4398046511104):=by
  intro n hn
  obtain ⟨x,hx,rfl,h0⟩:=NR hn
  have hs:=Iz nm.data.toList x.1
  exact ⟨by omega,x.2,by rw [<- (JL h0).1]; exact Lb h.rising hx,hz x hx h0⟩
 have hne : nm.toList.isEmpty = false:=by
  rw [ByteArray.toList_eq]
  cases hh : nm.data.toList with
  | nil =>
    have:=congrArg List.length hh
    rw [Array.length_toList] at this
    have h' : nm.size = 0:=this
    omega
  | cons a b => rfl
 have hne2 : ¬ nm.toList = []:=by intro hh; rw [hh] at hne; cases hne
 have hM:=fun (w1 : World) (hb : Below w.heap.size w w1) => Y6 (nm:=nm) h hF ht hg h1 h8 hb
 have HM:=Lib.hid hM
 have HD:=Lib.hid hd
 clear hM h ht hz hlw hd
 go_enter Tryz.func32,Tryz.ntmps32
 go_wp2_with fail
 refine (JF nm _ (by omega)).mono ?_
 rintro e w1 ⟨rfl,b1⟩
 have hL:=HM.out w1 b1
 have hb2:=b1.alloc b1.size (.cells #[.pointer (some ⟨p,0,none⟩),.string nm,.int .i64 1,.bool false] 117)
 have hqs:=b1.size
 go_wp2_with fail
 generalize w1.alloc (.cells #[.pointer (some ⟨p,0,none⟩),.string nm,.int .i64 1,.bool false] 117) = w2 at *
 generalize w1.heap.size = q at *
 have B2:=Lib.hid hb2
 have HL:=Lib.hid hL
 clear hb2 hL b1 HM
 refine (Ku HL.out hlen).mono ?_
 rintro e w3 ⟨v,rfl,ho,hb3⟩
 rw [if_neg (by rw [HD.out]; simp)] at ho
 have hd0 : (if S.down then (30 : Int) else 0) = 0:=by rw [HD.out]; rfl
 rw [hd0]
 have B3:=Lib.hid (A8 B2.out (Nat.le_refl _) hb3)
 have HL3:=Lib.hid (HL.out.below hb3)
 have HOW:=Lib.hid ho
 obtain ⟨ra,rc,rfl,hR⟩:=KS ho (by omega)
 have hc2:=HL3.out.head.c2
 have hf2:=HL3.out.head.free 2
 have hnum : Hid (F8 nm.data.toList S.files = F8 nm.data.toList S.files):=rfl
 by_cases hn0 : (AC nm.data.toList S.files).length = 0
 · have hcur:=Xc hn0
   have H0:=Lib.hid hn0
   have HC:=Lib.hid hcur
   have hz0 : ((AC nm.data.toList S.files).length : Int) <= 0:=by omega
   clear ho hb3 hR hd0 hn0 hcur
   go_wp2_with fail
   refine (NE HL3.out HD.out HOW.out HNS.out (by rw [HRR.out]; omega) (by omega)).mono ?_
   rintro e w4 ⟨rv,rfl,hro,hb4⟩
   rw [HRR.out] at hro
   have B4:=Lib.hid (A8 B3.out (Nat.le_refl _) hb4)
   have HL4:=Lib.hid (HL3.out.below hb4)
   have HRO:=Lib.hid (ownsRow_base_a hro B3.out.size)
   clear hro hb4 hc2 hf2
   go_wp2
   refine bodyPost_ret (v:=.tuple #[.pointer (some ⟨q,0,none⟩),rv,.int .i64 0]) (by simp [results,Tryz.results32,go_sem]) rfl ?_
   refine ⟨q,rv,rfl,hqs,?_,HRO.out,B4.out⟩
   rw [HC.out]
   exact HL4.out
 · have hcur:=Ua (nm:=nm.data.toList) (l:=S.files) (by omega)
   obtain ⟨b,off,rfl,hbl,hcell⟩:=hR.at (k:=(AC nm.data.toList S.files).length - 1) (by omega)
   rw [Lw (by omega)] at hcell
   have hq2:=HL.out.head.lt
   have hmem:=J6 nm.data.toList S.files
   have HG:=Lib.hid (show (AC nm.data.toList S.files).length = (AC nm.data.toList S.files).length from rfl)
   obtain ⟨n,hn⟩ : ∃ n,n = (AC nm.data.toList S.files)[(AC nm.data.toList S.files).length - 1]:=⟨_,rfl⟩
   rw [<- hn] at hcur hcell
   have hn8 : n + 1 <= 99999999:=by omega
   have HC:=Lib.hid hcur
   clear hcur hn hc
   obtain ⟨j,hj⟩ : ∃ j,(AC nm.data.toList S.files).length = j + 1:=⟨(AC nm.data.toList S.files).length - 1,by omega⟩
   have HJ:=Lib.hid hj
   have hjl : j + 1 <= 8796093022208:=by omega
   rw [hj] at hcell HOW
   simp only [hj]
   rw [Nat.add_sub_cancel] at hcell
   have hbl2 : b ≠ q:=by
    intro e
    subst e
    have h1:=HL3.out.head
    have h2 : ∃ cur,w3.heap[b]? = some (.cells cur 3 (0,0)):=by
     rcases HOW.out.2 with ⟨h1,_⟩ | ⟨g,cap,cur,h1,_,h2,_⟩
     · simp at h1
     · injection h1 with h1
       injection h1 with h1
       injection h1 with h1
       subst h1
       exact ⟨cur,h2⟩
    obtain ⟨cur,h2⟩:=h2
    unfold Bg at h1
    rw [h2] at h1
    simp at h1
   clear ho hb3 hR hd0 hn0 hj hmem hsl hnum
   have HLN : Hid (AY (w3.setCell ⟨q,2,none⟩ (.int .i64 ((n : Int) + 1))) q p nm (n + 1) false S F):=HL3.out.setTo (d:=n + 1) (by omega) hn8
   have HB4:=Lib.hid (B3.out.setCell (p:=⟨q,2,none⟩) hqs (.int .i64 ((n : Int) + 1)))
   have HO4:=Lib.hid (LP (w:=w3) (q:=q) (v:=.int .i64 ((n : Int) + 1)) (i:=2) |>.row HOW.out (fun k hk e => by have:=(HOW.out.lt k hk).1; have e' : k = q:=e; omega))
   have hj0 : (0 : Int) <= (j : Int):=by omega
   have hj1 : (j : Int) < (j : Int) + 1:=by omega
   have hrc2 : (DH nm.data.toList S.files).length <= 8796093022208:=by omega
   clear hrc hw hF
   have hwj : IntKind.i64.wrap ((j : Int) + 1 - 1) = (j : Int):=by rw [IntWalk.i64_in _ (by omega)]; omega
   go_upto_region 11 with (fail)
   clear hcell hc2 hf2
   generalize w3.setCell ⟨q,2,none⟩ (.int .i64 ((n : Int) + 1)) = w4 at *
   have hc4:=HLN.out.head.c2
   have hle : ¬ (99999999 : Int) < (n : Int) + 1:=by omega
   go_wp2_with fail
   have hro:=NE HLN.out HD.out (ns:=AC nm.data.toList S.files) (by rw [HJ.out]; exact HO4.out) HNS.out (by rw [HRR.out]; omega) (by rw [HJ.out]; omega)
   refine hro.mono ?_
   rintro e w5 ⟨rv,rfl,hro,hb5⟩
   rw [HRR.out] at hro
   have B5:=Lib.hid (A8 HB4.out (Nat.le_refl _) hb5)
   have HL5:=Lib.hid (HLN.out.below hb5)
   have HRO:=Lib.hid (ownsRow_base_a hro HB4.out.size)
   clear hro hb5 hc4
   go_wp2
   refine bodyPost_ret (v:=.tuple #[.pointer (some ⟨q,0,none⟩),rv,.int .i64 0]) (by simp [results,Tryz.results32,go_sem]) rfl ?_
   refine ⟨q,rv,rfl,hqs,?_,HRO.out,B5.out⟩
   rw [HC.out]
   exact HL5.out
end
section
open Go.RowKit
def Ox (B : Nat) (X : Nat -> Prop) : Nat -> Prop:=fun k => B <= k /\ ¬ X k
structure Ups (E : Nat -> World -> Prop) (St : World -> Nat -> Nat -> Dd -> (Nat -> Prop) -> Prop) (B : Nat) (w0 : World) (X : Nat -> Prop) (w : World) (d b : Nat) (s : Dd) : Prop where
 e : E B w
 st : St w d b s (Ox B X)
 x : ∀ k,X k -> k < w.heap.size
 fuel : s.box.fuel < 0
 bel : Below B w0 w
section
variable {E : Nat -> World -> Prop} {St : World -> Nat -> Nat -> Dd -> (Nat -> Prop) -> Prop} {Op : Bx -> List Aa -> Nat -> Prop} (K : Kf E St Op) {B : Nat} {w0 w w' : World} {X : Nat -> Prop} {d b : Nat} {s s' : Dd} {F F' : Nat -> Prop}
include K
theorem Ups.fresh (h : Ups E St B w0 X w d b s) (t : Ac (Ox B X) w w') {d' b' : Nat} (k : St w' d' b' s' F') (f : By (Ox B X) w F') (hf : s'.box.fuel < 0) : Ups E St B w0 X w' d' b' s':=by
 have hs:=K.e_size h.e
 refine ⟨K.e_turn h.e t (fun k hk => hk.1),K.mono k fun i hi => ?_,fun i hi => Nat.lt_of_lt_of_le (h.x i hi) t.size,hf,h.bel.trans (t.below (fun i hi => hi.1) hs)⟩
 rcases f i hi with h1 | h1
 · exact h1
 · exact ⟨by omega,fun hx => by have:=h.x i hx; omega⟩
theorem Ups.laid (h : Ups E St B w0 X w d b s) (t : Below w.heap.size w w') : Ups E St B w0 (fun k => X k \/ (w.heap.size <= k /\ k < w'.heap.size)) w' d b s:=by
 have hs:=K.e_size h.e
 have t0:=Ac.of_below (fun _ => False) t
 refine ⟨K.e_turn h.e t0 (fun _ h => h.elim),K.mono (K.turn (K.tight h.st) t0 (fun _ _ h => h)) fun i hi => ⟨hi.1.1,fun hx => ?_⟩,fun i hi => ?_,h.fuel,h.bel.trans (t.mono hs)⟩
 · rcases hx with hx | hx
   · exact hi.1.2 hx
   · have:=hi.2; omega
 · rcases hi with hi | hi
   · exact Nat.lt_of_lt_of_le (h.x i hi) t.size
   · exact hi.2
theorem Ups.below (h : Ups E St B w0 X w d b s) (t : Below w.heap.size w w') : Ups E St B w0 X w' d b s:=by
 have h1:=h.laid K t
 have hs:=K.e_size h.e
 exact ⟨h1.e,K.mono h1.st (fun i hi => ⟨hi.1,fun hx => hi.2 (.inl hx)⟩),fun i hi => Nat.lt_of_lt_of_le (h.x i hi) t.size,h.fuel,h1.bel⟩
theorem Gf (hE : E B w) (hb : Below B w0 w) {S : Bx} (hx : AD w b S (fun k => B <= k /\ ¬ X k)) (hX : ∀ k,X k -> k < w.heap.size) (hd : S.down = false) (hf : S.fuel < 0) {m : List Aa} {n : Nat} (ho : Op S m n) (hn : n <= limN) :
 Calls Tryz.prog 12 #[.pointer (some ⟨b,0,none⟩)] w fun e w' => ∃ d s,e = .returned (.tuple #[.pointer (some ⟨d,0,none⟩),.int .i64 0]) /\ Ups E St B w0 X w' d b s /\ Ac (Ox B X) w w' /\ s.map = m /\ s.n = n + 1 /\ AE s.box = AE S /\ (S.files = [] -> s.mem = [] /\ s.tabs = 0):=by
 refine (K.opens hE hx (fun k hk => hk.1) hd ho hn).mono ?_
 rintro e w1 ⟨t,⟨d,s,F',rfl,st,fr,em,en,ez,ef,e0⟩ | ⟨h0,-⟩⟩
 · have hs:=K.e_size hE
   refine ⟨d,s,rfl,⟨K.e_turn hE t (fun k hk => hk.1),K.mono st fun i hi => ?_,fun i hi => Nat.lt_of_lt_of_le (hX i hi) t.size,ef hf,hb.trans (t.below (fun i hi => hi.1) hs)⟩,t,em,en,ez,e0⟩
   rcases fr i hi with h1 | h1
   · exact h1
   · exact ⟨by omega,fun hx => by have:=hX i hx; omega⟩
 · omega
theorem Hi (h : Ups E St B w0 X w d b s) {a : Option Addr} {c : Nat} {l : List Aa} (hr : Ao w (.slice a l.length c) l) (ha : ∀ g o,a = some ⟨g,o,none⟩ -> l ≠ [] -> X g \/ g < B) (hn : s.n <= limN) :
 Calls Tryz.prog 13 #[.pointer (some ⟨d,0,none⟩),.slice a l.length c] w fun e w' => e = .returned (.int .i64 (A4 l : Nat)) /\ Ac (Ox B X) w w' /\ ∃ s',Ups E St B w0 X w' d b s' /\ s'.map = (if A4 l = 0 then AS s.map l else s.map) /\ s'.n <= s.n + 1 /\ AE s'.box = AE s.box /\ s'.mem = (if A4 l = 0 then (if 4096 <= F5 (KZ s.mem l) then [] else KZ s.mem l) else s.mem):=by
 refine (K.write h.e h.st (fun k hk => hk.1) hr (fun g o e hl hk => by rcases ha g o e hl with h1 | h1; exact hk.2 h1; have:=hk.1; omega) hn).mono ?_
 rintro e w1 ⟨t,⟨hc,rfl,F',st,fr⟩ | ⟨hc,rfl,s',F',st,fr,em,en,ez,ef,ee⟩ | ⟨hc,h0,-⟩⟩
 · exact ⟨rfl,t,s,h.fresh K t st fr h.fuel,by rw [if_neg hc],by omega,rfl,by rw [if_neg hc]⟩
 · refine ⟨by rw [hc]; rfl,t,s',h.fresh K t st fr (ef h.fuel),by rw [if_pos hc]; exact em,by omega,ez,by rw [if_pos hc]; exact ee⟩
 · have:=h.fuel; omega
theorem Qm (h : Ups E St B w0 X w d b s) (k : ByteArray) :
 Calls Tryz.prog 17 #[.pointer (some ⟨d,0,none⟩),.string k] w fun e w' => e = .returned (.tuple #[.string (G4 k s.map).1,.bool (G4 k s.map).2,.int .i64 0]) /\ Ac (Ox B X) w w' /\ Ups E St B w0 X w' d b s:=by
 refine (K.get h.e h.st (fun k hk => hk.1) k).mono ?_
 rintro e w1 ⟨rfl,t,F',st,fr⟩
 exact ⟨rfl,t,h.fresh K t st fr h.fuel⟩
theorem GQ (h : Ups E St B w0 X w d b s) (fr tu : ByteArray) (most : Int) (hm : (Lit.int .i64 most).wf = true) (hfr : fr.size <= 281474976710656) :
 Calls Tryz.prog 19 #[.pointer (some ⟨d,0,none⟩),.string fr,.string tu,.int .i64 most] w fun e w' => ∃ r,e = .returned (.tuple #[r,.int .i64 0]) /\ w'.ownsRow w.heap.size 61 3 r (AZ s.map fr tu most).length (AH (AZ s.map fr tu most)) /\ Ac (Ox B X) w w' /\ Ups E St B w0 (fun k => X k \/ r.ownBlock = some k) w' d b s:=by
 refine (K.scan h.e h.st (fun k hk => hk.1) fr tu most hm hfr).mono ?_
 rintro e w1 ⟨r,F',rfl,hr,ha,t,st,f⟩
 have u:=h.fresh K t st f h.fuel
 refine ⟨r,rfl,hr,t,u.e,K.mono st fun i hi => ⟨?_,fun hx => ?_⟩,fun i hi => ?_,h.fuel,u.bel⟩
 · have:=K.e_size h.e
   rcases f i hi with h1 | h1
   · exact h1.1
   · omega
 · rcases hx with hx | hx
   · rcases f i hi with h1 | h1
     · exact h1.2 hx
     · have:=h.x i hx; omega
   · exact ha i hx hi
 · rcases hi with hi | hi
   · exact u.x i hi
   · exact (hr.lt i hi).2
theorem Kz (h : Ups E St B w0 X w d b s) (hn : s.n <= limN) :
 Calls Tryz.prog 22 #[.pointer (some ⟨d,0,none⟩)] w fun e w' => e = .returned (.int .i64 0) /\ Ac (Ox B X) w w' /\ ∃ s',Ups E St B w0 X w' d b s' /\ s'.map = s.map /\ s'.n = s.n + 1 /\ AE s'.box = AE s.box /\ s'.mem = []:=by
 refine (K.flush h.e h.st (fun k hk => hk.1) hn).mono ?_
 rintro e w1 ⟨t,⟨rfl,s',F',st,fr,em,en,ez,ef,ee⟩ | ⟨h0,-⟩⟩
 · exact ⟨rfl,t,s',h.fresh K t st fr (ef h.fuel),em,en,ez,ee⟩
 · have:=h.fuel; omega
theorem JM (h : Ups E St B w0 X w d b s) (hn : s.n <= limN) :
 Calls Tryz.prog 24 #[.pointer (some ⟨d,0,none⟩)] w fun e w' => e = .returned (.int .i64 0) /\ Ac (Ox B X) w w' /\ ∃ s',Ups E St B w0 X w' d b s' /\ s'.map = s.map /\ s'.n = s.n + 1 /\ AE s'.box = AE s.box /\ s'.tabs <= 1:=by
 refine (K.compact h.e h.st (fun k hk => hk.1) hn).mono ?_
 rintro e w1 ⟨t,⟨rfl,s',F',st,fr,em,en,ez,ef,ee⟩ | ⟨h0,-⟩⟩
 · exact ⟨rfl,t,s',h.fresh K t st fr (ef h.fuel),em,en,ez,ee⟩
 · have:=h.fuel; omega
theorem KQ (h : Ups E St B w0 X w d b s) :
 Calls Tryz.prog 23 #[.pointer (some ⟨d,0,none⟩)] w fun e w' => e = .returned (.tuple #[.int .i64 (s.mem.length : Nat),.int .i64 (s.tabs : Nat)]) /\ Ac (Ox B X) w w' /\ Ups E St B w0 X w' d b s:=by
 refine (K.shape h.e h.st (fun k hk => hk.1)).mono ?_
 rintro e w1 ⟨rfl,t,F',st,fr⟩
 exact ⟨rfl,t,h.fresh K t st fr h.fuel⟩
theorem Rt (h : Ups E St B w0 X w d b s) {v : Value} {ks : List Int} (hks : Cm (Ox B X) w v ks) :
 Calls Tryz.prog 25 #[.pointer (some ⟨b,0,none⟩),v] w fun e w' => ∃ q,e = .returned (.pointer (some ⟨q,0,none⟩)) /\ E B w' /\ Below B w0 w' /\ AD w' q (s.box.crash ks) (fun k => B <= k /\ ¬ X k) /\ (∀ k,X k -> k < w'.heap.size) /\ Op (s.box.crash ks) s.map s.n /\ Ac (Ox B X) w w':=by
 obtain ⟨hb,hd⟩:=K.box h.st
 have hg:=K.good h.st
 have hs:=K.e_size h.e
 have hbF : Ox B X b:=by obtain ⟨m,es,hh⟩:=hb; exact hh.fp
 refine (Lr hb hks (by have:=hg.2.2.2.2; unfold limW at this; omega)).mono ?_
 rintro e w1 ⟨q,rfl,-,hq,t⟩
 have t1 : Ac (Ox B X) w w1:=t.mono (fun i hi => .inl (by subst hi; exact hbF))
 refine ⟨q,rfl,K.e_turn h.e t1 (fun k hk => hk.1),h.bel.trans (t1.below (fun i hi => hi.1) hs),hq.mono fun k hk => ⟨by omega,fun hx => by have:=h.x k hx; omega⟩,fun k hk => Nat.lt_of_lt_of_le (h.x k hk) t1.size,K.hold h.st ks,t1⟩
end
end
section
open Go.RowKit
def pA9 : Aa:=⟨⟨#[97]⟩,⟨#[49]⟩,false⟩
def pB9 : Aa:=⟨⟨#[98]⟩,⟨#[50]⟩,false⟩
def pG9 : Aa:=⟨⟨#[97]⟩,⟨#[]⟩,true⟩
theorem TH {l : List Aa} (h : Aj l) {k : ByteArray} (hk : ∀ y ∈ l,y.key ≠ k) : CG k l = none:=by
 cases e : CG k l with
 | none => rfl
 | some y => exact absurd ((BO h k y).1 e).2 (hk y ((BO h k y).1 e).1)
theorem two9 : AS (AS [] [pA9,pB9]) [pG9] = [pB9]:=by
 have r0 : Aj []:=List.Pairwise.nil
 have r1:=GE (x:=pA9) r0
 have r2:=GE (x:=pB9) r1
 refine rising_ext (GE r2) (List.pairwise_singleton _ _) fun y => ?_
 show y ∈ Jo pG9 (Jo pB9 (Jo pA9 [])) ↔ _
 rw [KN r2,KN r1,KN r0]
 have hne : pB9.key ≠ pG9.key:=by decide
 simp only [List.mem_cons,List.not_mem_nil,or_false,false_and]
 constructor
 · rintro (h | ⟨h | ⟨⟨_,h⟩,_⟩,h3⟩)
   · exact absurd h.1 (by decide)
   · exact h.2
   · exact absurd (h ▸ rfl : y.key = pG9.key) h3
 · rintro rfl
   exact .inr ⟨.inl ⟨rfl,rfl⟩,hne⟩
theorem val_b9 : G4 ⟨#[98]⟩ [pB9] = (⟨#[50]⟩,true):=Zo (m:=[pB9]) (List.pairwise_singleton _ _) (i:=0) (by decide)
theorem val_a9 : G4 ⟨#[97]⟩ [pB9] = (⟨#[]⟩,false):=by
 unfold G4
 rw [TH (List.pairwise_singleton _ _) (fun y hy => by rw [List.mem_singleton.1 hy]; decide)]
theorem P4 (w : World) (x : Aa) {W : World} {b : Nat} (h : W.heap[b]? = some (.cells #[.string x.key,.string x.val,.bool x.gone] 61 (0,0))) : Ao W (.slice (some ⟨b,0,none⟩) 1 1) [x]:=by
 refine ⟨by simp [maxLen],_,_,rfl,.inr ⟨b,0,rfl,fun i hi => ?_⟩⟩
 rw [Ab h,Ab h,Ab h]
 match i,hi with
 | 0,_ => exact ⟨rfl,rfl,rfl⟩
theorem WL (w : World) (x y : Aa) {W : World} {b : Nat} (h : W.heap[b]? = some (.cells #[.string x.key,.string x.val,.bool x.gone,.string y.key,.string y.val,.bool y.gone] 61 (0,0))) : Ao W (.slice (some ⟨b,0,none⟩) 2 2) [x,y]:=by
 refine ⟨by simp [maxLen],_,_,rfl,.inr ⟨b,0,rfl,fun i hi => ?_⟩⟩
 rw [Ab h,Ab h,Ab h]
 match i,hi with
 | 0,_ | 1,_ => exact ⟨rfl,rfl,rfl⟩
theorem W7 (w : World) : Ao w (.slice none 0 0) []:=⟨by simp,_,_,rfl,.inl rfl⟩
theorem L6 (F : Nat -> Prop) (w : World) : Cm F w (.slice none 0 0) []:=⟨⟨_,_,rfl,.inl rfl⟩,by simp,by simp⟩
section
variable {E : Nat -> World -> Prop} {St : World -> Nat -> Nat -> Dd -> (Nat -> Prop) -> Prop} {Op : Bx -> List Aa -> Nat -> Prop} (K : Kf E St Op)
include K
set_option maxHeartbeats 4000000 in
set_option maxRecDepth 100000 in
theorem Es {w : World} (hE : E w.heap.size w) :
 Calls Tryz.prog 10 #[] w fun e w' => e = .returned (.bool true) /\ Below w.heap.size w w':=by
 go_enter Tryz.func10,Tryz.ntmps10
 go_wp2_with fail
 refine (Ge w).mono ?_
 rintro e w1 ⟨p,rfl,hp,hbx,b1⟩
 have hE1:=K.e_turn hE (Ac.of_below (fun _ => False) b1) (fun _ h => h.elim)
 have hop:=Gf K (B:=w.heap.size) (w0:=w) (X:=fun _ => False) hE1 b1 (hbx.mono fun k hk => ⟨hk.1,fun h => h⟩) (fun k hk => hk.elim) rfl (by decide) (K.empty (S:=Bx.new) (fun x hx => by cases hx) rfl (by decide) List.Pairwise.nil) (by decide)
 clear hbx hE1 b1 hE
 go_wp2_with fail
 refine hop.mono ?_
 rintro e w2 ⟨d,s,rfl,u2,-,em,en,-,-⟩
 clear hop
 have b3 : Below w2.heap.size w2 (w2.alloc (.cells #[.string ⟨#[97]⟩,.string ⟨#[49]⟩,.bool false,.string ⟨#[98]⟩,.string ⟨#[50]⟩,.bool false] 61)):=(Below.refl _ w2).alloc (Nat.le_refl _) _
 have r3:=WL w2 pA9 pB9 (heap_alloc_new w2 (.cells #[.string ⟨#[97]⟩,.string ⟨#[49]⟩,.bool false,.string ⟨#[98]⟩,.string ⟨#[50]⟩,.bool false] 61))
 have u3:=u2.laid K b3
 have hw3:=Hi K u3 (l:=[pA9,pB9]) r3 (fun g o e _ => by injection e with e; injection e with e1; subst e1; exact .inl (.inr ⟨Nat.le_refl _,by simp⟩)) (by rw [en]; decide)
 clear b3 r3 u3 u2
 go_wp2_with fail
 refine hw3.mono ?_
 rintro e w4 ⟨rfl,-,s4,u4,em4,en4,-,-⟩
 rw [if_pos (by decide),em] at em4
 have hfl:=Kz K u4 (by unfold limN; omega)
 clear hw3 u4
 go_wp2_with fail
 refine hfl.mono ?_
 rintro e w5 ⟨rfl,-,s5,u5,em5,en5,-,-⟩
 rw [em4] at em5
 clear hfl
 have b6 : Below w5.heap.size w5 (w5.alloc (.cells #[.string ⟨#[97]⟩,.string ⟨#[]⟩,.bool true] 61)):=(Below.refl _ w5).alloc (Nat.le_refl _) _
 have r6:=P4 w5 pG9 (heap_alloc_new w5 (.cells #[.string ⟨#[97]⟩,.string ⟨#[]⟩,.bool true] 61))
 have u6:=u5.laid K b6
 have hw6:=Hi K u6 (l:=[pG9]) r6 (fun g o e _ => by injection e with e; injection e with e1; subst e1; exact .inl (.inr ⟨Nat.le_refl _,by simp⟩)) (by unfold limN; omega)
 clear b6 r6 u6 u5
 go_wp2_with fail
 refine hw6.mono ?_
 rintro e w7 ⟨rfl,-,s7,u7,em7,en7,-,-⟩
 rw [if_pos (by decide),em5,two9] at em7
 clear hw6
 have hcr:=Rt K u7 (L6 _ _)
 clear u7
 go_wp2_with fail
 refine hcr.mono ?_
 rintro e w8 ⟨q,rfl,hE8,hb8,hx8,hX8,ho8,-⟩
 have hop:=Gf K hE8 hb8 hx8 hX8 rfl (by show (-1 : Int) < 0; decide) ho8 (by unfold limN; omega)
 clear hcr hE8 hb8 hx8 hX8 ho8
 go_wp2_with fail
 refine hop.mono ?_
 rintro e w9 ⟨d9,s9,rfl,u9,-,em9,-,-,-⟩
 rw [em7] at em9
 have hg9:=Qm K u9 ⟨#[98]⟩
 rw [em9,val_b9] at hg9
 clear hop u9
 go_wp2_with fail
 refine hg9.mono ?_
 rintro e wa ⟨rfl,-,ua⟩
 have hga:=Qm K ua ⟨#[97]⟩
 rw [em9,val_a9] at hga
 clear hg9 ua
 go_wp2_with fail
 refine hga.mono ?_
 rintro e wb ⟨rfl,-,ub⟩
 have hck:=K.check (W7 wb)
 clear hga
 go_wp2_with fail
 refine hck.mono ?_
 rintro e wc ⟨rfl,bc⟩
 have uc:=ub.below K bc
 clear hck ub bc
 go_wp2
 go_ret
 exact ⟨rfl,uc.bel⟩
end
end
section
open Go.RowKit
section
variable {E : Nat -> World -> Prop} {St : World -> Nat -> Nat -> Dd -> (Nat -> Prop) -> Prop} {Op : Bx -> List Aa -> Nat -> Prop} (K : Kf E St Op)
include K
theorem Kf.e_below {B : Nat} {w w' : World} (h : E B w) (t : Below w.heap.size w w') : E B w':=K.e_turn h (Ac.of_below (fun _ => False) t) (fun _ h => h.elim)
set_option maxHeartbeats 4000000 in
set_option maxRecDepth 100000 in
theorem Si {w : World} (hE : E w.heap.size w) (a0 : Option Addr) (n0 c0 : Nat) (key : ByteArray) :
 Calls Tryz.prog 8 #[.slice a0 n0 c0,.string key] w fun e w' => e = .returned (.bool true) /\ Below w.heap.size w w':=by
 have haw:=Es K hE
 go_enter Tryz.func8,Tryz.ntmps8
 go_wp2_with fail
 refine haw.mono ?_
 rintro e w1 ⟨rfl,B1⟩
 have E1:=Lib.hid (K.e_turn hE (Ac.of_below (fun _ => False) B1) (fun _ h => h.elim))
 clear haw hE
 go_wp2_with fail
 refine K.nil_shape.mono ?_
 rintro e w2 ⟨rfl,b2⟩
 have B2:=B1.trans (b2.mono B1.size)
 have E2:=Lib.hid (K.e_below E1.out b2)
 clear b2 B1 E1
 go_wp2_with fail
 refine (K.nil_get _).mono ?_
 rintro e w3 ⟨⟨gv,gb,rfl⟩,b3⟩
 have B3:=B2.trans (b3.mono B2.size)
 have E3:=Lib.hid (K.e_below E2.out b3)
 clear b3 B2 E2
 go_wp2_with fail
 refine (K.nil_scan _ _ _).mono ?_
 rintro e w4 ⟨⟨sa,sn,sc,rfl⟩,b4⟩
 have B4:=B3.trans (b4.mono B3.size)
 have E4:=Lib.hid (K.e_below E3.out b4)
 clear b4 B3 E3
 go_wp2_with fail
 refine (K.open_nil E4.out).mono ?_
 rintro e w5 ⟨⟨po,rfl⟩,b5⟩
 have B5:=B4.trans (b5.mono B4.size)
 have E5:=Lib.hid (K.e_below E4.out b5)
 clear b5 B4 E4
 go_wp2_with fail
 refine (Ge w5).mono ?_
 rintro e w6 ⟨p,rfl,hp,hbx,b6⟩
 have B6:=B5.trans (b6.mono B5.size)
 have E6:=Lib.hid (K.e_below E5.out b6)
 have hsz:=B5.size
 have hX:=Lib.hid (hbx.mono (G:=fun k => w.heap.size <= k) (fun k hk => by omega))
 clear b6 B5 E5 hbx
 have hcr:=Lr hX.out (L6 _ _) (by decide)
 go_wp2_with fail
 refine hcr.mono ?_
 rintro e w7 ⟨q,rfl,h7,-,t7⟩
 have B7:=B6.trans (t7.below (B:=w.heap.size) (fun i hi => by omega) B6.size)
 have E7:=K.e_turn E6.out t7 (fun k hk => by omega)
 have hop:=K.open_down E7 h7 (fun k hk => hk) rfl
 clear hcr hX t7 B6 E6 E7 h7 hp hsz
 go_wp2_with fail
 refine hop.mono ?_
 rintro e w8 ⟨⟨po2,rfl⟩,b8⟩
 have B8:=B7.trans (b8.mono B7.size)
 clear hop b8 B7
 go_wp2_with fail
 refine (K.nil_write _).mono ?_
 rintro e w9 ⟨rfl,b9⟩
 have B9:=B8.trans (b9.mono B8.size)
 clear b9 B8
 go_wp2_with fail
 refine K.nil_flush.mono ?_
 rintro e wa ⟨rfl,ba⟩
 have Ba:=B9.trans (ba.mono B9.size)
 clear ba B9
 go_wp2_with fail
 refine K.nil_compact.mono ?_
 rintro e wb ⟨rfl,bb⟩
 have Bb:=Ba.trans (bb.mono Ba.size)
 clear bb Ba
 go_wp2
 go_ret
 exact ⟨rfl,Bb⟩
end
end
end Go.Proofs.YtlkefgngefpkiaaGreatDoor

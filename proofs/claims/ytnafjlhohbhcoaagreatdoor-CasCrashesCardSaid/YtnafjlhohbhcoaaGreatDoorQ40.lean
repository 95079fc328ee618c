/- Parts of the proof. -/
import Derived.Test.YtnafjlhohbhcoaaGreatDoorQ35
import Derived.Test.YtnafjlhohbhcoaaGreatDoorQ39
import Derived.Test.YtnafjlhohbhcoaaGreatDoorQ06
import Derived.Test.YtnafjlhohbhcoaaGreatDoorQ30
import Derived.Test.YtnafjlhohbhcoaaGreatDoorQ11
namespace Go.Proofs.YtnafjlhohbhcoaaGreatDoor
open Go.Lib (hid)
set_option linter.unusedVariables false
section
open Go.RowKit Go.Maps Go.WideMaps Go.Shelf
structure AW (w : World) (q p : Nat) (nm : ByteArray) (c : Nat) (a : Bool) (S : Bx) (F : Nat -> Prop) : Prop where
 box : AH w p S F
 head : Bb w q p nm c a
 nq : ¬ F q
 nm1 : 1 <= nm.size
 nm8 : nm.size <= 8
 cur1 : 1 <= c
 cur8 : c <= 99999999
 tab : Tab w
 ng : ¬ F 3
 qg : q ≠ 3
section
variable {w w' : World} {q p c : Nat} {nm : ByteArray} {a : Bool} {S S' : Bx} {F G : Nat -> Prop}
theorem AW.below (h : AW w q p nm c a S F) (hb : Below w.heap.size w w') : AW w' q p nm c a S F:=
 ⟨h.box.below hb,h.head.below hb,h.nq,h.nm1,h.nm8,h.cur1,h.cur8,h.tab.below hb,h.ng,h.qg⟩
theorem AW.drew (h : AW w q p nm c a S F) : AW w.drew q p nm c a S F:=h.below (Ay w)
theorem AW.onBox (h : AW w q p nm c a S F) (hb : AH w' p S' (AN F w w')) (t : Ac F w w') : AW w' q p nm c a S' (AN F w w'):=
 ⟨hb,h.head.turn t h.nq,fun hq => by rcases hq with hq | hq; exact h.nq hq; have:=h.head.lt; omega,h.nm1,h.nm8,h.cur1,h.cur8,h.tab.turn t h.ng,
  fun hg => by rcases hg with hg | hg; exact h.ng hg; have:=h.tab.lt; omega,h.qg⟩
theorem Lw {v : Value} {i : Nat} : Ac (fun k => k = q) w (w.setCell ⟨q,i,none⟩ v):=(Ac.refl (fun k => k = q) w).setCell (p:=⟨q,i,none⟩) (.inl rfl) v
theorem AW.setApp (h : AW w q p nm c a S F) (a' : Bool) : AW (w.setCell ⟨q,3,none⟩ (.bool a')) q p nm c a' S F:=
 ⟨h.box.kept Lw (fun k hk e => by have e' : k = q:=e; subst e'; exact h.nq hk),h.head.setApp a',h.nq,h.nm1,h.nm8,h.cur1,h.cur8,h.tab.turn Lw (fun e => h.qg e.symm),h.ng,h.qg⟩
theorem AW.setTo (h : AW w q p nm c a S F) {d : Nat} (h1 : 1 <= d) (h8 : d <= 99999999) : AW (w.setCell ⟨q,2,none⟩ (.int .i64 (d : Int))) q p nm d a S F:=
 ⟨h.box.kept Lw (fun k hk e => by have e' : k = q:=e; subst e'; exact h.nq hk),h.head.setCur d,h.nq,h.nm1,h.nm8,h1,h8,h.tab.turn Lw (fun e => h.qg e.symm),h.ng,h.qg⟩
end
theorem infoInt4 : (Tryz.prog.info? 3).map (fun i => (i.zero,i.size,i.bytes)) = some (some (.int .i64 0),1,8):=by kernel_rfl
def Qm (ns : List Nat) : List Value:=ns.map fun (n : Nat) => .int .i64 (n : Int)
theorem Sk (nm : Key) (l : List (Key × Ae)) (x : Key × Ae) : AD nm (l ++ [x]) = if AE nm x.1 = 0 then AD nm l else AD nm l ++ [AE nm x.1]:=by
 unfold AD
 rw [List.map_append,List.filter_append,List.map_cons,List.map_nil,List.filter_cons,List.filter_nil]
 by_cases h : AE nm x.1 = 0
 · rw [if_neg (by simp [h]),if_pos h,List.append_nil]
 · rw [if_pos (by simp; omega),if_neg h]
theorem Tv {nm : Key} {l : List (Key × Ae)} {k : Nat} (h : k < l.length) : AD nm (l.take (k + 1)) = if AE nm l[k].1 = 0 then AD nm (l.take k) else AD nm (l.take k) ++ [AE nm l[k].1]:=by
 rw [List.take_succ_eq_append_getElem h,Sk]
theorem J1 (nm : Key) (l : List (Key × Ae)) : (AD nm l).length <= l.length:=by
 unfold AD
 exact Nat.le_trans (List.length_filter_le _ _) (by simp)
theorem Iy (nm f : Key) : AE nm f < 100000000:=by
 by_cases h : AE nm f = 0
 · omega
 · exact (JY h).2
theorem Ld {w : World} {base n : Nat} {e : TypeId} {v : Value} {xs : List Value} (h : w.ownsRow base e 1 v n xs) (hn : n <= 9223372036854775807) :
 ∃ a cap,v = .slice a n cap /\ GY w a n (fun i => xs.getD i undef):=by
 have hl : xs.length = n:=by have:=h.1; omega
 rcases h.2 with ⟨rfl,h0⟩ | ⟨g,cap,cur,rfl,_,hg,hle,_,hcs,htake⟩
 · subst h0
   exact ⟨none,0,rfl,by omega,.inl rfl⟩
 · have hc : ∀ i,i < n -> w.cell? ⟨g,0 + i,none⟩ = some (xs.getD i undef):=by
     intro i hi
     rw [cell_of_row w g _ cur _ _ hg]
     have : (cur.toList.take (n * 1))[0 + i]? = xs[0 + i]?:=by rw [htake]
     rw [List.getElem?_take,if_pos (by omega)] at this
     rw [<- Array.getElem?_toList,this]
     simp [List.getD,hl,hi]
   refine ⟨some ⟨g,0,none⟩,cap,rfl,hn,?_⟩
   by_cases h0 : n = 0
   · exact .inl h0
   · exact .inr ⟨g,0,rfl,World.block_lt_of_cell? w ⟨g,0 + 0,none⟩ (hc 0 (by omega)),hc⟩
theorem AH.name {w : World} {p : Nat} {S : Bx} {F : Nat -> Prop} (h : AH w p S F) {x : Key × Ae} (hx : x ∈ S.files) : x.1.length <= 32:=by
 obtain ⟨m,es,h⟩:=h
 rw [h.files] at hx
 obtain ⟨y,hy,rfl⟩:=List.mem_map.1 hx
 have:=(h.mem.each y hy).2
 unfold Cp at this
 exact (of_decide_eq_true this).2
theorem Abk {l : List (Key × Ae)} {k : Nat} (h : k < l.length) : (l.map fun x => tx x.1).getD k undef = .string ⟨l[k].1.toArray⟩:=by
 simp [List.getD,h,tx]
theorem Aas (n : Int) : ∀ u ∈ [Value.int .i64 n],u.oneCell' = true:=by intro u hu; simp at hu; subst hu; rfl
def MC (w : World) (nm : Key) (S : Bx) (e : Ending) (w' : World) : Prop:=
 ∃ v,e = .returned (.tuple #[v,.int .i64 (if S.down then 30 else 0)]) /\ w'.ownsRow w.heap.size 3 1 v (if S.down then [] else AD nm S.files).length (Qm (if S.down then [] else AD nm S.files)) /\ Below w.heap.size w w'
set_option maxHeartbeats 1000000 in
set_option maxRecDepth 100000 in
theorem Kr {w : World} {q p c : Nat} {nm : ByteArray} {a : Bool} {S : Bx} {F : Nat -> Prop} (h : AW w q p nm c a S F) (hl : S.files.length <= 8796093022208) :
 Calls Tryz.prog 71 #[.pointer (some ⟨q,0,none⟩)] w fun e w' => MC w nm.data.toList S e w':=by
 have c0:=h.head.c0
 have hls:=Oq h.box hl
 have H:=hid h
 obtain ⟨i0,hi,hz0,hz1,hz2⟩:=info_parts infoInt4
 clear h
 by_cases hd : S.down = true
 · rw [if_pos hd,if_pos hd,if_pos hd] at hls
   have hE : ∀ (v : Value) (w' : World),w'.ownsRow w.heap.size 3 1 v 0 [] -> Below w.heap.size w w' -> MC w nm.data.toList S (.returned (.tuple #[v,.int .i64 30])) w':=fun v w' h1 h2 => ⟨v,by rw [if_pos hd],by rw [if_pos hd]; exact h1,h2⟩
   have HE:=hid hE
   clear hE hd
   go_enter Tryz.func71,Tryz.ntmps71
   go_wp2_with fail
   refine hls.mono ?_
   rintro e w1 ⟨v,rfl,ho,hb⟩
   have HB:=hid hb
   clear ho hb
   go_wp2
   go_ret2
   exact HE.out _ _ (World.ownsRow_nil _ _ _ _) HB.out
 · rw [if_neg hd,if_neg hd,if_neg hd] at hls
   have hE : ∀ (v : Value) (w' : World),w'.ownsRow w.heap.size 3 1 v (AD nm.data.toList S.files).length (Qm (AD nm.data.toList S.files)) -> Below w.heap.size w w' -> MC w nm.data.toList S (.returned (.tuple #[v,.int .i64 0])) w':=fun v w' h1 h2 => ⟨v,by rw [if_neg hd],by rw [if_neg hd]; exact h1,h2⟩
   have HE:=hid hE
   clear hE hd
   generalize hfs : S.files = fs at *
   go_enter Tryz.func71,Tryz.ntmps71
   go_wp2_with fail
   refine hls.mono ?_
   rintro e w1 ⟨v,rfl,ho,hb⟩
   obtain ⟨va,vc,rfl⟩:=CK ho
   have HO:=hid ho
   have HB:=hid hb
   obtain ⟨ra,rc,hrv,R1⟩:=Ld ho (by omega)
   injection hrv with e1 e2 e3
   subst e1; subst e3
   have HR:=hid R1
   have HN:=hid (show ∀ x ∈ fs,x.1.length <= 32 from fun x hx => H.out.box.name (by rw [hfs]; exact hx))
   clear hls ho hb R1 hfs
   go_wp2
   go_loopw [6,23] (fun nv iv wr => ∃ (k : Nat),k <= fs.length /\ iv = .int .i64 (k : Int) /\ Hid (wr.ownsRow w1.heap.size 3 1 nv (AD nm.data.toList (fs.take k)).length (Qm (AD nm.data.toList (fs.take k)))) /\ Hid (Below w1.heap.size w1 wr)) (fun _ iv _ => fs.length - (intOf iv).toNat)
   case atStart => exact ⟨0,by omega,rfl,World.ownsRow_nil _ _ _ _,Below.refl _ _⟩
   case round =>
    obtain ⟨k,hk,rfl,HV,HB3⟩:=hrel
    have HB2:=hid (A4 HB.out (Nat.le_refl _) HB3.out)
    by_cases hlt : k < fs.length
    · obtain ⟨b,off,rfl,hcell⟩:=HR.out.in HB3.out hlt
      have hH:=H.out.below HB2.out
      rw [Abk hlt] at hcell
      have hs32 : fs[k].1.length <= 32:=HN.out _ (List.getElem_mem hlt)
      have hst:=Tv (nm:=nm.data.toList) hlt
      have hsl:=J1 nm.data.toList (fs.take k)
      rw [List.length_take] at hsl
      have hsl2 : (AD nm.data.toList (fs.take k)).length <= 8796093022208:=by omega
      have hnum:=Rh hH.head ⟨fs[k].1.toArray⟩ (by show fs[k].1.toArray.size <= maxLen; rw [List.size_toArray]; unfold maxLen; omega)
      generalize hg : (⟨fs[k].1.toArray⟩ : ByteArray) = f at *
      have hgl : fs[k].1 = f.data.toList:=by rw [<- hg]
      rw [hgl] at hst
      have hns:=Iy nm.data.toList f.data.toList
      have HST:=hid hst
      clear hst hsl hs32 hg hgl hH
      generalize AE nm.data.toList f.data.toList = num at *
      by_cases h0 : num = 0
      · subst h0
        have HV2 : Hid (wr.ownsRow w1.heap.size 3 1 u6 (AD nm.data.toList (fs.take (k + 1))).length (Qm (AD nm.data.toList (fs.take (k + 1))))):=by rw [HST.out,if_pos rfl]; exact HV
        go_wp2_with fail
        refine hnum.mono ?_
        rintro e w2 ⟨rfl,rfl⟩
        go_wp2
        go_roundw
        case rel => exact ⟨k + 1,by omega,by go_num,HV2,HB3⟩
        case measure => simp [intOf]; omega
      · have h1 : (1 : Int) <= (num : Int):=by omega
        go_wp2_with fail
        refine hnum.mono ?_
        rintro e w2 ⟨rfl,rfl⟩
        have hown1:=HV.out
        go_wp2_with (first
         | (at_builtin; refine wpList_append_own _ rfl (.tmp 32) (.tmp 34) 62 rfl w1.heap.size 3 i0 (.int .i64 0) 1 8 Tryz.underlying62 hi hz0 hz1 hz2 rfl (by decide) _ _ _ rfl (hown1.alloc _) ⟨wr.heap.size,0,none⟩ 1 1 [.int .i64 (num : Int)] rfl rfl ?c1 ?c2 ?c3 ?c4 ?c5 ?_))
        case c1 => exact Gg _ _ _
        case c2 => exact Aas _
        case c3 => unfold maxLen; omega
        case c4 => omega
        case c5 => have:=HB3.out.size; simp; omega
        intro v' w3 hown' hgrow _
        have HV2 : Hid (w3.ownsRow w1.heap.size 3 1 v' (AD nm.data.toList (fs.take (k + 1))).length (Qm (AD nm.data.toList (fs.take (k + 1))))):=by
         show World.ownsRow _ _ _ _ _ _ _
         rw [HST.out,if_neg h0,List.length_append]
         unfold Qm
         rw [List.map_append]
         exact hown'
        have HB4 : Hid (Below w1.heap.size w1 w3):=(HB3.out.alloc HB3.out.size _).grown hgrow (by have:=HB3.out.size; simp; omega) (fun k hk => (hown1.lt k hk).1)
        clear hown1 hown' hgrow hnum
        go_wp2
        go_roundw
        case rel => exact ⟨k + 1,by omega,by go_num,HV2,HB4⟩
        case measure => simp [intOf]; omega
    · obtain rfl : k = fs.length:=by omega
      rw [List.take_length] at HV
      go_wp2
      go_ret2
      exact HE.out _ _ (ownsRow_base_a HV.out HB.out.size) HB2.out
end
section
open Go.RowKit Go.Maps Go.WideMaps Go.Shelf
theorem JK {P : Program} {w : World} {ops : Array Oper} {rest : List Oper} {o : Oper} {a : Act} {Q : Exit -> Act -> World -> Prop} (hgd : o.guard = none) (s x : Operand) (t : TypeId)
 (ho : o.op = .call { callee:=.builtin .append,args:=#[s,x],argTypes:=#[t,t] })
 (base : Nat) (e : TypeId) (i : TypeInfo) (z : Value) (bytes : Nat) (ht : P.underlying t = some (.slice e)) (hi : P.info? e = some i) (hz : i.zero = some z)
 (hsize : i.size = 1) (hby : i.bytes = bytes) (hzs : z.cells.size = 1)
 (v : Value) (n : Nat) (xs : List Value) (hs : a.eval s = v) (hown : w.ownsRow base e 1 v n xs)
 (u : Value) (m : Nat) (ys : List Value) (b2 : Nat) (hx : a.eval x = u) (hsrc : w.ownsRow b2 e 1 u m ys) (h1 : ∀ u ∈ ys,u.oneCell' = true)
 (h63 : n + m <= maxLen) (hbytes : (n + m) * bytes <= 140737488355328) (hbase : base <= w.heap.size)
 (h : ∀ v' w',w'.ownsRow base e 1 v' (n + m) (xs ++ ys) -> w.grownBy w' v.ownBlock -> wpList P ops Q rest (a.put o.dst v') w') : wpList P ops Q (o :: rest) a w:=by
 have hl:=hsrc.1
 rcases hsrc.2 with ⟨hu,h0⟩ | ⟨g,cap,cur,hu,_⟩
 · subst h0
   have hy : ys = []:=List.eq_nil_of_length_eq_zero (by simpa using hl)
   subst hy
   refine wpList_append_own_none hgd s x t ho base e i 1 ht hi v n xs hs hown (by rw [hx,hu]) (h v w (by simpa using hown) (World.grownBy.refl w _))
 · exact wpList_append_own w hgd s x t ho base e i z 1 bytes ht hi hz hsize hby hzs (by decide) v n xs hs hown ⟨g,0,none⟩ m cap ys (by rw [hx,hu]) hl (hsrc.cells (g:=g) (by rw [hu]; rfl)) h1 h63 hbytes hbase
     (fun v' w' h2 h3 _ => h v' w' h2 h3)
def Ws (nm : Key) (l : List (Key × Ae)) (n : Nat) : List (List UInt8):=match Am (Af nm n) l with | some f => (Bz f.bytes).1 | none => []
def ES (nm : Key) (l : List (Key × Ae)) (ns : List Nat) : List (List UInt8):=ns.flatMap (Ws nm l)
theorem TL {nm : Key} {l : List (Key × Ae)} {ns : List Nat} {k : Nat} (h : k < ns.length) : ES nm l (ns.take (k + 1)) = ES nm l (ns.take k) ++ Ws nm l ns[k]:=by
 unfold ES
 rw [List.take_succ_eq_append_getElem h,List.flatMap_append]
 simp
theorem Ue (nm : Key) (l : List (Key × Ae)) (ns : List Nat) (k : Nat) : (ES nm l (ns.take k)).length <= (ES nm l ns).length:=by
 have : ES nm l ns = ES nm l (ns.take k) ++ ES nm l (ns.drop k):=by unfold ES; rw [<- List.flatMap_append,List.take_append_drop]
 rw [this,List.length_append]; omega
theorem AaT (l : List (List UInt8)) : ∀ u ∈ l.map tx,u.oneCell' = true:=by
 intro u hu
 obtain ⟨x,_,rfl⟩:=List.mem_map.1 hu
 rfl
theorem LD {ns : List Nat} {k : Nat} (h : k < ns.length) : (Qm ns).getD k undef = .int .i64 (ns[k] : Int):=by
 simp [List.getD,Qm,h]
theorem Hp (nm : ByteArray) (n : Nat) (h : nm.size <= 8) : (LJ nm n).size <= maxLen:=by rw [Xt]; unfold maxLen; omega
theorem tx_of {x : ByteArray} {l : List UInt8} (h : x = ⟨l.toArray⟩) : tx l = .string x:=by rw [h]; rfl
def Aax (w : World) (nm : Key) (l : List (Key × Ae)) (ns : List Nat) (e : Ending) (w' : World) : Prop:=
 ∃ v,e = .returned (.tuple #[v,.int .i64 0]) /\ w'.ownsRow w.heap.size 9 1 v (ES nm l ns).length ((ES nm l ns).map tx) /\ Below w.heap.size w w'
end
section
open Go.RowKit Go.Maps Go.WideMaps Go.Shelf
theorem scanL_count : ∀ (n : Nat) (l : List UInt8),l.length <= n -> (Bz l).1.length <= l.length:=by
 intro n
 induction n with
 | zero =>
   intro l h
   rw [Bz]
   split
   · rename_i h0
     have:=(Il h0).1
     omega
   · simp
 | succ n ih =>
   intro l h
   rw [Bz]
   split
   · rename_i h0
     have h1:=(Il h0).1
     have:=ih _ (by omega : (BJ l).2.2.length <= n)
     simp only [List.length_cons]
     omega
   · simp
theorem Mp (nm : Key) (l : List (Key × Ae)) : (Dy nm l).length <= weigh l:=by
 induction l with
 | nil => simp [Dy]
 | cons x r ih =>
   have h1:=scanL_count _ x.2.bytes (Nat.le_refl _)
   unfold Dy weigh at *
   rw [List.flatMap_cons,List.length_append,List.map_cons,List.sum_cons]
   split
   · simp only [List.length_nil]; omega
   · omega
theorem KL {α : Type} {l : List (Key × α)} (h : AC l) {x : Key × α} (hx : x ∈ l) : Am x.1 l = some x.2:=by
 induction l with
 | nil => cases hx
 | cons y r ih =>
   obtain ⟨h1,h2⟩:=List.pairwise_cons.1 h
   rw [BO]
   rcases List.mem_cons.1 hx with rfl | hx
   · rw [if_pos rfl]
   · have hb:=h1 x hx
     rw [if_neg (fun e => by rw [e,FZ] at hb; cases hb)]
     exact ih h2 hx
theorem Nk {nm : Key} {l : List (Key × Ae)} {n : Nat} (h : n ∈ AD nm l) : ∃ x ∈ l,AE nm x.1 = n /\ n ≠ 0:=by
 unfold AD at h
 obtain ⟨h1,h2⟩:=List.mem_filter.1 h
 obtain ⟨x,hx,rfl⟩:=List.mem_map.1 h1
 exact ⟨x,hx,rfl,by have:=of_decide_eq_true h2; omega⟩
theorem Vj {nm : Key} {l : List (Key × Ae)} (h : AC l) : ES nm l (AD nm l) = Dy nm l:=by
 rw [Nb,Mt]
 unfold ES
 rw [List.flatMap_map]
 have key : ∀ m : List (Key × Ae),(∀ x ∈ m,x ∈ l /\ AE nm x.1 ≠ 0) -> m.flatMap (fun x => Ws nm l (AE nm x.1)) = m.flatMap fun x => (Bz x.2.bytes).1:=by
  intro m hm
  induction m with
  | nil => rfl
  | cons y r ih =>
    obtain ⟨h1,h2⟩:=hm y (by simp)
    rw [List.flatMap_cons,List.flatMap_cons,ih (fun x hx => hm x (List.mem_cons_of_mem _ hx))]
    congr 1
    unfold Ws
    rw [<- (JY h2).1,KL h h1]
 refine key _ (fun x hx => ?_)
 unfold Bu at hx
 obtain ⟨h1,h2⟩:=List.mem_filter.1 hx
 exact ⟨h1,by simpa using h2⟩
theorem AH.rising {w : World} {p : Nat} {S : Bx} {F : Nat -> Prop} (h : AH w p S F) : AC S.files:=by
 obtain ⟨m,es,h⟩:=h
 rw [h.files]
 exact (Kd Bm.file).2 h.rising
theorem Wl {nm : Key} {l : List (Key × Ae)} (h : (AD nm l).length = 0) : F4 nm l = 1:=by
 unfold F4
 rw [List.eq_nil_of_length_eq_zero h]; rfl
theorem U2 {nm : Key} {l : List (Key × Ae)} (h : 0 < (AD nm l).length) : F4 nm l = (AD nm l)[(AD nm l).length - 1] + 1:=by
 unfold F4
 have hne : AD nm l ≠ []:=by intro e; rw [e] at h; simp at h
 rw [List.getLastD_eq_getLast?,List.getLast?_eq_some_getLast hne,Option.getD_some,List.getLast_eq_getElem]
def Abb (w : World) (p : Nat) (nm : ByteArray) (S : Bx) (F : Nat -> Prop) (e : Ending) (w' : World) : Prop:=
 ∃ q v,e = .returned (.tuple #[.pointer (some ⟨q,0,none⟩),v,.int .i64 0]) /\ w.heap.size <= q /\ AW w' q p nm (F4 nm.data.toList S.files) false S F /\
  w'.ownsRow w.heap.size 9 1 v (Dy nm.data.toList S.files).length ((Dy nm.data.toList S.files).map tx) /\ Below w.heap.size w w'
theorem Aaq {w w1 : World} {p : Nat} {nm : ByteArray} {S : Bx} {F : Nat -> Prop} (h : AH w p S F) (hF : ∀ k,F k -> k < w.heap.size) (ht : Tab w) (hg : ¬ F 3) (h1 : 1 <= nm.size) (h8 : nm.size <= 8) (hb : Below w.heap.size w w1) :
 AW (w1.alloc (.cells #[.pointer (some ⟨p,0,none⟩),.string nm,.int .i64 1,.bool false] 125)) w1.heap.size p nm 1 false S F:=by
 have hs:=hb.size
 have hl:=ht.lt
 have hb2:=hb.alloc hs (.cells #[.pointer (some ⟨p,0,none⟩),.string nm,.int .i64 1,.bool false] 125)
 exact ⟨h.below hb2,heap_alloc_new _ _,fun hk => by have:=hF _ hk; omega,h1,h8,by omega,by omega,ht.below hb2,hg,by omega⟩
end
section
open Go.RowKit Go.Maps Go.WideMaps Go.Shelf
section
variable {w w1 w2 : World} {q p c : Nat} {nm : ByteArray} {a : Bool} {S S' : Bx} {F G : Nat -> Prop}
theorem AW.wide (h : AW w2 q p nm c a S (AN F w1 w2)) (hs : w.heap.size <= w1.heap.size) (hq : ¬ AN F w w2 q) (hg : ¬ AN F w w2 3) : AW w2 q p nm c a S (AN F w w2):=
 ⟨h.box.mono (fun k hk => by rcases hk with hk | hk; exact .inl hk; exact .inr ⟨by omega,hk.2⟩),h.head,hq,h.nm1,h.nm8,h.cur1,h.cur8,h.tab,hg,h.qg⟩
theorem AW.step (h : AW w q p nm c a S F) (b1 : Below w.heap.size w w1) (hb : AH w2 p S' (AN F w1 w2)) (t : Ac F w1 w2) : AW w2 q p nm c a S' (AN F w w2) /\ Ac F w w2:=by
 have hs:=b1.size
 have hq:=h.head.lt
 have hg:=h.tab.lt
 have h2:=(h.below b1).onBox hb t
 exact ⟨h2.wide hs (fun hk => by rcases hk with hk | hk; exact h.nq hk; omega) (fun hk => by rcases hk with hk | hk; exact h.ng hk; omega),(Ac.of_below F b1).trans t (fun i hi => .inl hi)⟩
theorem AW.step' (h : AW w q p nm c a S F) (b1 : Below w.heap.size w w1) (hb : AH w2 p S' F) (t : Ac F w1 w2) : AW w2 q p nm c a S' F /\ Ac F w w2:=
 ⟨⟨hb,(h.head.below b1).turn t h.nq,h.nq,h.nm1,h.nm8,h.cur1,h.cur8,(h.tab.below b1).turn t h.ng,h.ng,h.qg⟩,(Ac.of_below F b1).trans t (fun i hi => .inl hi)⟩
end
theorem AW.wide' {w w2 w3 : World} {q p c : Nat} {nm : ByteArray} {a : Bool} {S : Bx} {F : Nat -> Prop} (h : AW w3 q p nm c a S (AN F w w2)) (hs : w3.heap.size = w2.heap.size) : AW w3 q p nm c a S (AN F w w3):=by
 have e : AN F w w3 = AN F w w2:=by funext k; unfold AN; rw [hs]
 rw [e]; exact h
theorem LT {w w' : World} {p : Nat} {S : Bx} {F : Nat -> Prop} (h : AH w' p S F) : AH w' p S (AN F w w'):=h.mono (fun k hk => .inl hk)
def Na (F : Nat -> Prop) (q k : Nat) : Prop:=F k \/ k = q
theorem LE {F : Nat -> Prop} {q : Nat} {w w' : World} (t : Ac F w w') : Ac (Na F q) w w':=t.mono (fun i hi => .inl (.inl hi))
set_option maxHeartbeats 1000000 in
set_option maxRecDepth 100000 in
theorem UZ {w : World} {q p c : Nat} {nm : ByteArray} {a : Bool} {S : Bx} {F : Nat -> Prop} (h : AW w q p nm c a S F) (r : ByteArray) (hr : r.size <= 1048576) (hz : weigh S.files <= 70368744177664) :
 Calls Tryz.prog 128 #[.pointer (some ⟨q,0,none⟩),.string r] w fun e w' => e = .returned (.int .i64 (S.append (Af nm.data.toList c) (Ai r.data.toList)).2) /\
  AW w' q p nm c (if (S.append (Af nm.data.toList c) (Ai r.data.toList)).2 = 0 then true else a) (S.append (Af nm.data.toList c) (Ai r.data.toList)).1 (AN F w w') /\ Ac (Na F q) w w':=by
 obtain ⟨x,hx⟩ : ∃ x : ByteArray,x = ⟨(Ai r.data.toList).toArray⟩:=⟨_,rfl⟩
 have hxd : x.data.toList = Ai r.data.toList:=by rw [hx]
 have hxs : x.size <= 1048590:=by
  rw [hx]
  show (Ai r.data.toList).toArray.size <= _
  rw [List.size_toArray]
  have:=Fu (l:=r.data.toList) (by rw [Array.length_toList]; exact hr)
  have e : r.data.toList.length = r.size:=by rw [Array.length_toList]; rfl
  omega
 have hwr:=NC r hr
 rw [<- hx] at hwr
 rw [<- hxd]
 obtain ⟨R,hR⟩ : ∃ R,S.append (Af nm.data.toList c) x.data.toList = R:=⟨_,rfl⟩
 rw [hR]
 obtain ⟨S2,e2⟩:=R
 have HR:=hid hR
 have H:=hid h
 have HWR:=hid hwr
 have hzz : weigh S.files + x.size <= 140737488355328:=by omega
 clear hwr hx hxd h hR
 simp only
 by_cases he : e2 = 0
 · subst he
   rw [if_pos rfl]
   go_enter Tryz.func128,Tryz.ntmps128
   go_wp2_with fail
   refine (HWR.out _).mono ?_
   rintro e w1 ⟨rfl,b1⟩
   have B1:=hid b1
   have H1:=hid (H.out.below b1)
   have c0:=H1.out.head.c0
   have c2:=H1.out.head.c2
   clear b1
   go_upto_region 6 with (fail)
   go_region_held3 (fun w' => w'.cell? ⟨q,0,none⟩ = some (.pointer (some ⟨p,0,none⟩)) /\ w'.cell? ⟨q,2,none⟩ = some (.int .i64 (c : Int))) (first | exact ⟨c0,c2⟩ | exact ⟨c0a,c2a⟩ | exact ⟨c0b,c2b⟩)
    (first
    | (go_at_call 105; refine (Ha H1.out.drew.head H1.out.nm8 H1.out.drew.tab c H1.out.cur8).mono ?_; rintro e w2 ⟨rfl,b2⟩; have B2:=hid (Co b2); have H2:=hid (H1.out.drew.below b2); have c0a:=H2.out.head.c0; have c2a:=H2.out.head.c2; clear b2)
    | (go_at_call 97; have hap:=Kp H2.out.box (LJ nm c) x (Hp nm c H2.out.nm8) hzz; rw [EA,HR.out] at hap; refine hap.mono ?_; rintro e w3 ⟨rfl,h3,t3⟩; have H3:=hid (H2.out.onBox h3 t3); have c0b:=H3.out.head.c0; have c2b:=H3.out.head.c2; have BT:=hid (And.intro h3 t3); clear h3 t3 hap))
   all_goals
    have hf3:=H3.out.head.free 3
    have c3b:=H3.out.head.c3
    have HS:=hid (H.out.step (A4 B1.out (Nat.le_refl _) B2.out) BT.out.1 BT.out.2)
    go_wp2
    go_ret
    refine ⟨rfl,?_,(LE HS.out.2).trans Lw (fun i hi => .inl (.inr hi))⟩
    exact (HS.out.1.setApp true).wide' (by simp [World.setCell])
 · have he2 : (e2 == 0) = false:=by simp [he]
   rw [if_neg he]
   go_enter Tryz.func128,Tryz.ntmps128
   go_wp2_with fail
   refine (HWR.out _).mono ?_
   rintro e w1 ⟨rfl,b1⟩
   have B1:=hid b1
   have H1:=hid (H.out.below b1)
   have c0:=H1.out.head.c0
   have c2:=H1.out.head.c2
   clear b1
   go_upto_region 6 with (fail)
   go_region_held3 (fun w' => w'.cell? ⟨q,0,none⟩ = some (.pointer (some ⟨p,0,none⟩)) /\ w'.cell? ⟨q,2,none⟩ = some (.int .i64 (c : Int))) (first | exact ⟨c0,c2⟩ | exact ⟨c0a,c2a⟩ | exact ⟨c0b,c2b⟩)
    (first
    | (go_at_call 105; refine (Ha H1.out.drew.head H1.out.nm8 H1.out.drew.tab c H1.out.cur8).mono ?_; rintro e w2 ⟨rfl,b2⟩; have B2:=hid (Co b2); have H2:=hid (H1.out.drew.below b2); have c0a:=H2.out.head.c0; have c2a:=H2.out.head.c2; clear b2)
    | (go_at_call 97; have hap:=Kp H2.out.box (LJ nm c) x (Hp nm c H2.out.nm8) hzz; rw [EA,HR.out] at hap; refine hap.mono ?_; rintro e w3 ⟨rfl,h3,t3⟩; have H3:=hid (H2.out.onBox h3 t3); have c0b:=H3.out.head.c0; have c2b:=H3.out.head.c2; have BT:=hid (And.intro h3 t3); clear h3 t3 hap))
   all_goals
    have HS:=hid (H.out.step (A4 B1.out (Nat.le_refl _) B2.out) BT.out.1 BT.out.2)
    go_wp2
    go_ret
    exact ⟨rfl,HS.out.1,LE HS.out.2⟩
set_option maxHeartbeats 1000000 in
set_option maxRecDepth 100000 in
theorem Rw {w : World} {q p c : Nat} {nm : ByteArray} {S : Bx} {F : Nat -> Prop} (h : AW w q p nm c false S F) :
 Calls Tryz.prog 129 #[.pointer (some ⟨q,0,none⟩)] w fun e w' => e = .returned (.int .i64 0) /\ w = w':=by
 have c3:=h.head.c3
 clear h
 go_enter Tryz.func129,Tryz.ntmps129
 go_wp2
 go_ret
 exact ⟨rfl,rfl⟩
set_option maxHeartbeats 1000000 in
set_option maxRecDepth 100000 in
theorem Nm {w : World} {q p c : Nat} {nm : ByteArray} {S : Bx} {F : Nat -> Prop} (h : AW w q p nm c true S F) :
 Calls Tryz.prog 129 #[.pointer (some ⟨q,0,none⟩)] w fun e w' => e = .returned (.int .i64 (S.sync (Af nm.data.toList c)).2) /\
  AW w' q p nm c true (S.sync (Af nm.data.toList c)).1 F /\ Ac F w w':=by
 obtain ⟨R,hR⟩ : ∃ R,S.sync (Af nm.data.toList c) = R:=⟨_,rfl⟩
 rw [hR]
 obtain ⟨S2,e2⟩:=R
 have HR:=hid hR
 have H:=hid h
 have c0:=h.head.c0
 have c2:=h.head.c2
 have c3:=h.head.c3
 clear hR h
 simp only
 go_enter Tryz.func129,Tryz.ntmps129
 go_upto_region 5 with (fail)
 go_region_held3 (fun w' => w'.cell? ⟨q,0,none⟩ = some (.pointer (some ⟨p,0,none⟩)) /\ w'.cell? ⟨q,2,none⟩ = some (.int .i64 (c : Int))) (first | exact ⟨c0,c2⟩ | exact ⟨c0a,c2a⟩ | exact ⟨c0b,c2b⟩)
  (first
  | (go_at_call 105; refine (Ha H.out.drew.head H.out.nm8 H.out.drew.tab c H.out.cur8).mono ?_; rintro e w2 ⟨rfl,b2⟩; have B2:=hid (Co b2); have H2:=hid (H.out.drew.below b2); have c0a:=H2.out.head.c0; have c2a:=H2.out.head.c2; clear b2)
  | (go_at_call 98; have hap:=Ro H2.out.box (LJ nm c) (Hp nm c H2.out.nm8); rw [EA,HR.out] at hap; refine hap.mono ?_; rintro e w3 ⟨rfl,h3,t3⟩; have H3:=hid (H2.out.onBox (LT h3) t3); have c0b:=H3.out.head.c0; have c2b:=H3.out.head.c2; have BT:=hid (And.intro h3 t3); clear h3 t3 hap))
 all_goals
  have HS:=hid (H.out.step' B2.out BT.out.1 BT.out.2)
  go_wp2
  go_ret
  exact ⟨rfl,HS.out.1,HS.out.2⟩
end
section
open Go.RowKit Go.Maps Go.WideMaps Go.Shelf
theorem AW.next {w : World} {q p c : Nat} {nm : ByteArray} {a : Bool} {S : Bx} {F : Nat -> Prop} (h : AW w q p nm c a S F) (hc : c < 99999999) :
 AW ((w.setCell ⟨q,2,none⟩ (.int .i64 ((c : Int) + 1))).setCell ⟨q,3,none⟩ (.bool false)) q p nm (c + 1) false S F /\ Ac (Na F q) w ((w.setCell ⟨q,2,none⟩ (.int .i64 ((c : Int) + 1))).setCell ⟨q,3,none⟩ (.bool false)):=by
 have h1 : AW (w.setCell ⟨q,2,none⟩ (.int .i64 ((c : Int) + 1))) q p nm (c + 1) a S F:=h.setTo (d:=c + 1) (by omega) (by omega)
 refine ⟨h1.setApp false,?_⟩
 exact (((Ac.refl (Na F q) w).setCell (p:=⟨q,2,none⟩) (.inl (.inr rfl)) _).setCell (p:=⟨q,3,none⟩) (.inl (.inr rfl)) _)
set_option maxHeartbeats 1000000 in
set_option maxRecDepth 100000 in
theorem LA {w : World} {q p c : Nat} {nm : ByteArray} {S : Bx} {F : Nat -> Prop} (h : AW w q p nm c false S F) (hc : c < 99999999) :
 Calls Tryz.prog 120 #[.pointer (some ⟨q,0,none⟩)] w fun e w' => e = .returned (.tuple #[.int .i64 (c : Int),.int .i64 0]) /\ AW w' q p nm (c + 1) false S F /\ Ac (Na F q) w w':=by
 have c2:=h.head.c2
 have c3:=h.head.c3
 have f2:=h.head.free 2
 have f3:=h.head.free 3
 have HN:=hid (h.next hc)
 have H:=hid h
 have hne : ¬ (c : Int) = 99999999:=by omega
 clear h
 go_enter Tryz.func120,Tryz.ntmps120
 go_wp2_with fail
 refine (Rw H.out).mono ?_
 rintro e w1 ⟨rfl,rfl⟩
 go_wp2
 go_ret2
 exact ⟨rfl,HN.out.1,HN.out.2⟩
set_option maxHeartbeats 1000000 in
set_option maxRecDepth 100000 in
theorem OI {w : World} {q p c : Nat} {nm : ByteArray} {S : Bx} {F : Nat -> Prop} (h : AW w q p nm c true S F) (hc : c < 99999999) (he : (S.sync (Af nm.data.toList c)).2 ≠ 0) :
 Calls Tryz.prog 120 #[.pointer (some ⟨q,0,none⟩)] w fun e w' => e = .returned (.tuple #[.int .i64 0,.int .i64 (S.sync (Af nm.data.toList c)).2]) /\ AW w' q p nm c true (S.sync (Af nm.data.toList c)).1 F /\ Ac F w w':=by
 have c2:=h.head.c2
 have hs:=Nm h
 have hne : ¬ (c : Int) = 99999999:=by omega
 obtain ⟨R,hR⟩ : ∃ R,S.sync (Af nm.data.toList c) = R:=⟨_,rfl⟩
 rw [hR] at he hs ⊢
 obtain ⟨S2,e2⟩:=R
 simp only at he hs ⊢
 have he2 : (e2 == 0) = false:=by simp [he]
 clear h hR
 go_enter Tryz.func120,Tryz.ntmps120
 go_wp2_with fail
 refine hs.mono ?_
 rintro e w1 ⟨rfl,h1,t1⟩
 go_wp2
 go_ret2
 exact ⟨rfl,h1,t1⟩
set_option maxHeartbeats 1000000 in
set_option maxRecDepth 100000 in
theorem Vr {w : World} {q p c : Nat} {nm : ByteArray} {S : Bx} {F : Nat -> Prop} (h : AW w q p nm c true S F) (hc : c < 99999999) (he : (S.sync (Af nm.data.toList c)).2 = 0) :
 Calls Tryz.prog 120 #[.pointer (some ⟨q,0,none⟩)] w fun e w' => e = .returned (.tuple #[.int .i64 (c : Int),.int .i64 0]) /\ AW w' q p nm (c + 1) false (S.sync (Af nm.data.toList c)).1 F /\ Ac (Na F q) w w':=by
 have c2:=h.head.c2
 have hs:=Nm h
 have hne : ¬ (c : Int) = 99999999:=by omega
 obtain ⟨R,hR⟩ : ∃ R,S.sync (Af nm.data.toList c) = R:=⟨_,rfl⟩
 rw [hR] at he hs ⊢
 obtain ⟨S2,e2⟩:=R
 simp only at he hs ⊢
 subst he
 clear h hR
 go_enter Tryz.func120,Tryz.ntmps120
 go_wp2_with fail
 refine hs.mono ?_
 rintro e w1 ⟨rfl,h1,t1⟩
 have c2a:=h1.head.c2
 have c3a:=h1.head.c3
 have f2:=h1.head.free 2
 have f3:=h1.head.free 3
 have HN:=hid (h1.next hc)
 have T:=hid t1
 clear h1 t1 c2
 go_wp2
 go_ret2
 exact ⟨rfl,HN.out.1,(LE T.out).trans HN.out.2 (fun i hi => .inl hi)⟩
set_option maxHeartbeats 1000000 in
set_option maxRecDepth 100000 in
theorem Yj {w : World} {q p c : Nat} {nm : ByteArray} {a : Bool} {S : Bx} {F : Nat -> Prop} (h : AW w q p nm c a S F) (hF : ∀ k,F k -> k < w.heap.size) (hd : S.down = false) (hl : S.files.length <= 8796093022208) (u : Int) (hu : u < (c : Int)) :
 Calls Tryz.prog 122 #[.pointer (some ⟨q,0,none⟩),.int .i64 u] w fun e w' => e = .returned (.int .i64 (BK nm.data.toList u (AD nm.data.toList S.files) S).2) /\
  AW w' q p nm c a (BK nm.data.toList u (AD nm.data.toList S.files) S).1 F /\ Ac F w w':=by
 have c2:=h.head.c2
 have hsg:=Kr h hl
 have hsl:=J1 nm.data.toList S.files
 have hns : ∀ n ∈ AD nm.data.toList S.files,n <= 99999999:=by
  intro n hn
  obtain ⟨x,_,rfl,_⟩:=Nk hn
  have:=Iy nm.data.toList x.1
  omega
 have hd0 : (if S.down then (30 : Int) else 0) = 0:=by rw [hd]; rfl
 have hf : (if S.down then [] else AD nm.data.toList S.files) = AD nm.data.toList S.files:=by rw [hd]; rfl
 unfold MC at hsg
 rw [hd0,hf] at hsg
 generalize AD nm.data.toList S.files = ns at *
 have hnl : ns.length <= 8796093022208:=by omega
 have H:=hid h
 have HF:=hid hF
 have HNS:=hid hns
 obtain ⟨R,hR⟩ : ∃ R,BK nm.data.toList u ns S = R:=⟨_,rfl⟩
 rw [hR]
 obtain ⟨S2,e2⟩:=R
 have HR:=hid hR
 clear h hF hns hd0 hf hd hl hsl hR
 simp only
 go_enter Tryz.func122,Tryz.ntmps122
 go_wp2_with fail
 refine hsg.mono ?_
 rintro e w1 ⟨v,rfl,ho,hb⟩
 obtain ⟨ra,rc,rfl⟩:=CK ho
 have HO:=hid ho
 have HB:=hid hb
 have H1:=hid (H.out.below hb)
 clear ho hb c2 hsg
 go_wp2
 go_loopw [30] (fun iv wr => ∃ (k : Nat) (T : Bx),k <= ns.length /\ iv = .int .i64 (k : Int) /\ Hid (BK nm.data.toList u (ns.drop k) T = (S2,e2)) /\ Hid (AW wr q p nm c a T F) /\ Hid (Ac F w1 wr)) (fun iv _ => ns.length - (intOf iv).toNat)
 case atStart => exact ⟨0,S,by omega,rfl,HR.out,H1.out,Ac.refl _ _⟩
 case round =>
  obtain ⟨k,T,hk,rfl,HT,HL,HTu⟩:=hrel
  by_cases hlt : k < ns.length
  · obtain ⟨ra',rc',hv,hRow⟩:=Ld (HTu.out.row HO.out (fun j hj hf => by have:=(HO.out.lt j hj).1; have:=HF.out j hf; omega)) (by omega)
    injection hv with e1 _ e3
    subst e1; subst e3
    obtain ⟨b,off,rfl,hbl,hcell⟩:=hRow.at hlt
    rw [LD hlt] at hcell
    have hn8:=HNS.out _ (List.getElem_mem hlt)
    have hdr : Hid (ns.drop k = ns[k] :: ns.drop (k + 1)):=List.drop_eq_getElem_cons hlt
    generalize ns[k] = n at *
    have HT2 : Hid (BK nm.data.toList u (n :: ns.drop (k + 1)) T = (S2,e2)):=by rw [<- hdr.out]; exact HT
    clear HT hdr hRow hbl
    by_cases hgt : u < (n : Int)
    · have hend : Hid (T = S2 /\ (0 : Int) = e2):=by
        have:=HT2.out
        unfold BK at this
        rw [if_pos hgt] at this
        injection this with g1 g2
        exact ⟨g1,g2⟩
      go_wp2
      go_ret
      rw [<- hend.out.1,<- hend.out.2]
      exact ⟨rfl,HL.out,(Ac.of_below F HB.out).trans HTu.out (fun i hi => .inl hi)⟩
    · have hngt : (n : Int) <= u:=by omega
      have c0:=HL.out.head.c0
      have hT3:=HT2.out
      unfold BK at hT3
      rw [if_neg hgt] at hT3
      obtain ⟨D,hD⟩ : ∃ D,T.delete (Af nm.data.toList n) = D:=⟨_,rfl⟩
      rw [hD] at hT3
      obtain ⟨T2,e3⟩:=D
      simp only at hT3
      have HD:=hid hD
      clear hgt hD HT2
      by_cases he : e3 = 0
      · subst he
        rw [if_pos rfl] at hT3
        have HT3:=hid hT3
        clear hT3
        go_wp2
        go_region_held3 (fun w' => w'.cell? ⟨q,0,none⟩ = some (.pointer (some ⟨p,0,none⟩))) (first | exact c0 | exact c0a | exact c0b)
         (first
         | (go_at_call 105; refine (Ha HL.out.drew.head HL.out.nm8 HL.out.drew.tab n hn8).mono ?_; rintro e w2 ⟨rfl,b2⟩; have B2:=hid (Co b2); have H2:=hid (HL.out.drew.below b2); have c0a:=H2.out.head.c0; clear b2)
         | (go_at_call 82; have hap:=Kh H2.out.box (LJ nm n) (Hp nm n H2.out.nm8); rw [EA,HD.out] at hap; refine hap.mono ?_; rintro e w3 ⟨rfl,h3,t3⟩; have H3:=hid (H2.out.onBox (LT h3) t3); have c0b:=H3.out.head.c0; have BT:=hid (And.intro h3 t3); clear h3 t3 hap))
        all_goals
         have HS:=hid (HL.out.step' B2.out BT.out.1 BT.out.2)
         have HTu2:=hid (HTu.out.trans HS.out.2 (fun i hi => .inl hi))
         have HL2:=hid HS.out.1
         clear hcell
         go_wp2
         go_roundw
         case rel => exact ⟨k + 1,T2,by omega,by go_num,HT3,HL2,HTu2⟩
         case measure => simp [intOf]; omega
      · rw [if_neg he] at hT3
        have he2 : (e3 == 0) = false:=by simp [he]
        have HT3:=hid hT3
        clear hT3
        go_wp2
        go_region_held3 (fun w' => w'.cell? ⟨q,0,none⟩ = some (.pointer (some ⟨p,0,none⟩))) (first | exact c0 | exact c0a | exact c0b)
         (first
         | (go_at_call 105; refine (Ha HL.out.drew.head HL.out.nm8 HL.out.drew.tab n hn8).mono ?_; rintro e w2 ⟨rfl,b2⟩; have B2:=hid (Co b2); have H2:=hid (HL.out.drew.below b2); have c0a:=H2.out.head.c0; clear b2)
         | (go_at_call 82; have hap:=Kh H2.out.box (LJ nm n) (Hp nm n H2.out.nm8); rw [EA,HD.out] at hap; refine hap.mono ?_; rintro e w3 ⟨rfl,h3,t3⟩; have H3:=hid (H2.out.onBox (LT h3) t3); have c0b:=H3.out.head.c0; have BT:=hid (And.intro h3 t3); clear h3 t3 hap))
        all_goals
         have HS:=hid (HL.out.step' B2.out BT.out.1 BT.out.2)
         have HTu2:=hid ((Ac.of_below F HB.out).trans (HTu.out.trans HS.out.2 (fun i hi => .inl hi)) (fun i hi => .inl hi))
         have HL2:=hid HS.out.1
         clear hcell
         go_wp2
         go_ret
         have h9:=HT3.out
         injection h9 with g1 g2
         rw [<- g1,<- g2]
         exact ⟨rfl,HL2.out,HTu2.out⟩
  · obtain rfl : k = ns.length:=by omega
    have hend : Hid (T = S2 /\ (0 : Int) = e2):=by
     have:=HT.out
     rw [List.drop_length] at this
     unfold BK at this
     injection this with g1 g2
     exact ⟨g1,g2⟩
    clear HT
    go_wp2
    go_ret
    rw [<- hend.out.1,<- hend.out.2]
    exact ⟨rfl,HL.out,(Ac.of_below F HB.out).trans HTu.out (fun i hi => .inl hi)⟩
end
section
open Go.RowKit Go.Maps Go.WideMaps Go.Shelf
section
variable {B : Nat} {w w' : World} {q p c : Nat} {nm : ByteArray} {a : Bool} {S : Bx}
end
section
variable {B : Nat} {w : World} {q p c : Nat} {nm : ByteArray} {a : Bool} {S : Bx}
end
end
section
open Go.RowKit Go.Maps Go.WideMaps Go.Shelf
section
variable {B : Nat} {w w' : World} {q p : Nat} {nm : ByteArray} {fs : List Ae} {last : List (List UInt8)} {d N : Nat}
end
end
section
open Go.RowKit Go.Maps Go.WideMaps Go.Shelf
set_option maxHeartbeats 1000000 in
set_option maxRecDepth 100000 in
theorem Wh (s : ByteArray) (hs : s.size <= 4398046511104) (w : World) :
 Calls Tryz.prog 106 #[.string s] w fun e w' => MG w s e w':=by
 obtain ⟨i0,hi,hz0,hz1,hz2⟩:=info_parts infoStr
 go_enter Tryz.func106,Tryz.ntmps106
 go_wp2
 refine wp_scope_jumps 0 (YD w s) (fun a' _ => Zv a') rfl ?_ ?_
 · go_wp2
   go_step3
   have hz : DO s [] s /\ w.ownsRow w.heap.size 9 1 (.slice none 0 0) ([] : List (List UInt8)).length (([] : List (List UInt8)).map tx) /\ Below w.heap.size w w:=⟨DO.start s,World.ownsRow_nil _ _ _ _,Below.refl _ _⟩
   obtain ⟨hr,hown,hb⟩:=hz
   have hlen:=hr.len
   have hsz:=hb.size
   go_wp2_with fail
   refine (Kv _ (by omega) _).mono ?_
   rintro e w1 ⟨he,hb1⟩
   have hown1:=Ah hown hb1
   have hb2:=A4 hb (Nat.le_refl _) hb1
   have hsz1:=hb2.size
   clear hown hb hb1 hsz
   rcases he with ⟨a,r,hn,rfl⟩ | ⟨k,hk,hn,rfl⟩
   · obtain ⟨hr2,hlt⟩:=hr.next hn
     have hlen2:=hr2.len
     rw [List.length_append,List.length_singleton] at hlen2
     clear hn
     go_wp2_with (first
      | (at_builtin; refine wpList_append_own _ rfl (.tmp 18) (.tmp 20) 52 rfl w.heap.size 9 i0 (.string ⟨#[]⟩) 1 16 Tryz.underlying52 hi hz0 hz1 hz2 rfl (by decide) _ _ _ rfl (hown1.alloc _) ⟨w1.heap.size,0,none⟩ 1 1 [.string a] rfl rfl ?c1 ?c2 ?c3 ?c4 ?c5 ?_))
     case c1 => exact Gg _ _ _
     case c2 => exact MJ a
     case c3 => unfold maxLen; omega
     case c4 => omega
     case c5 => simp; omega
     intro v' w2 hown' hgrow _
     have hown2 : w2.ownsRow w.heap.size 9 1 v' (([] : List (List UInt8)) ++ [a.data.toList]).length ((([] : List (List UInt8)) ++ [a.data.toList]).map tx):=by
      rw [List.length_append,List.map_append,List.map_singleton,MH]
      exact hown'
     have hb3:=(hb2.alloc hsz1 _).grown hgrow (by simp; omega) (fun k hk => (hown1.lt k hk).1)
     clear hown1 hown' hgrow hb2 hi
     go_wp2
     go_step3
     exact ⟨rfl,r,_,v',_,_,_,_,_,_,_,_,_,_,_,_,_,_,_,_,_,rfl,hr2,hown2,hb3⟩
   · have hk0 : ((k : Int) == 0) = false:=by simp; omega
     have hend:=hid (KQ hr hk hn hown1 hb2)
     clear hn hown1 hb2 hr
     go_wp2
     simp only [Exit.jump]
     go_ret2
     have hend2:=hend.out
     rw [show ((s.size : Int) - (s.size : Int)) = 0 by omega] at hend2
     exact hend2
 · rintro a' wr ⟨t,done,v,u6,u7,u8,u9,u10,u11,u12,u13,u14,u15,u16,u17,u18,u19,u20,u21,u22,rfl,hr,hown,hb⟩
   have hlen:=hr.len
   have hsz:=hb.size
   go_wp2_with fail
   refine (Kv _ (by omega) _).mono ?_
   rintro e w1 ⟨he,hb1⟩
   have hown1:=Ah hown hb1
   have hb2:=A4 hb (Nat.le_refl _) hb1
   have hsz1:=hb2.size
   clear hown hb hb1 hsz
   rcases he with ⟨a,r,hn,rfl⟩ | ⟨k,hk,hn,rfl⟩
   · obtain ⟨hr2,hlt⟩:=hr.next hn
     have hlen2:=hr2.len
     rw [List.length_append,List.length_singleton] at hlen2
     clear hn
     go_wp2_with (first
      | (at_builtin; refine wpList_append_own _ rfl (.tmp 18) (.tmp 20) 52 rfl w.heap.size 9 i0 (.string ⟨#[]⟩) 1 16 Tryz.underlying52 hi hz0 hz1 hz2 rfl (by decide) _ _ _ rfl (hown1.alloc _) ⟨w1.heap.size,0,none⟩ 1 1 [.string a] rfl rfl ?c1 ?c2 ?c3 ?c4 ?c5 ?_))
     case c1 => exact Gg _ _ _
     case c2 => exact MJ a
     case c3 => unfold maxLen; omega
     case c4 => omega
     case c5 => simp; omega
     intro v' w2 hown' hgrow _
     have hown2 : w2.ownsRow w.heap.size 9 1 v' (done ++ [a.data.toList]).length ((done ++ [a.data.toList]).map tx):=by
      rw [List.length_append,List.map_append,List.map_singleton,MH]
      exact hown'
     have hb3:=(hb2.alloc hsz1 _).grown hgrow (by simp; omega) (fun k hk => (hown1.lt k hk).1)
     clear hown1 hown' hgrow hb2 hi
     go_wp2
     go_step3
     exact ⟨rfl,⟨r,_,v',_,_,_,_,_,_,_,_,_,_,_,_,_,_,_,_,_,rfl,hr2,hown2,hb3⟩,hlt⟩
   · have hk0 : ((k : Int) == 0) = false:=by simp; omega
     have hend:=hid (KQ hr hk hn hown1 hb2)
     clear hn hown1 hb2 hr
     go_wp2
     simp only [Exit.jump]
     go_ret2
     exact hend.out
set_option maxHeartbeats 1000000 in
set_option maxRecDepth 100000 in
theorem MW {w : World} {q p c : Nat} {nm : ByteArray} {a : Bool} {S : Bx} {F : Nat -> Prop} (h : AW w q p nm c a S F) (hd : S.down = false) {b0 : Nat} {v : Value} {ns : List Nat} (hv : w.ownsRow b0 3 1 v ns.length (Qm ns))
 (hns : ∀ n ∈ ns,n <= 99999999 /\ ∃ f,Am (Af nm.data.toList n) S.files = some f /\ f.bytes.length <= 4398046511104) (hl : (ES nm.data.toList S.files ns).length <= 8796093022208) (hn : ns.length <= 8796093022208) :
 Calls Tryz.prog 72 #[.pointer (some ⟨q,0,none⟩),v] w fun e w' => Aax w nm.data.toList S.files ns e w':=by
 obtain ⟨i0,hi,hz0,hz1,hz2⟩:=info_parts infoStr
 obtain ⟨ra,rc,rfl,hR⟩:=Ld hv (by omega)
 have H:=hid h
 have HR:=hid hR
 have HNS:=hid hns
 have HD:=hid hd
 clear h hv hns hd hR
 go_enter Tryz.func72,Tryz.ntmps72
 go_wp2
 go_loopw [6,15] (fun nv iv wr => ∃ (k : Nat),k <= ns.length /\ iv = .int .i64 (k : Int) /\ Hid (wr.ownsRow w.heap.size 9 1 nv (ES nm.data.toList S.files (ns.take k)).length ((ES nm.data.toList S.files (ns.take k)).map tx)) /\ Hid (Below w.heap.size w wr)) (fun _ iv _ => ns.length - (intOf iv).toNat)
 case atStart => exact ⟨0,by omega,rfl,World.ownsRow_nil _ _ _ _,Below.refl _ _⟩
 case round =>
  obtain ⟨k,hk,rfl,HV,HB⟩:=hrel
  by_cases hlt : k < ns.length
  · obtain ⟨b,off,rfl,hcell⟩:=HR.out.in HB.out hlt
    rw [LD hlt] at hcell
    obtain ⟨hn8,f,hf,hfz⟩:=HNS.out _ (List.getElem_mem hlt)
    have HT:=hid (TL (nm:=nm.data.toList) (l:=S.files) hlt)
    have hm1:=Ue nm.data.toList S.files ns (k + 1)
    have hrn : Hid (Ws nm.data.toList S.files ns[k] = (Bz f.bytes).1):=by show _ = _; unfold Ws; rw [hf]
    have hlen1 : (ES nm.data.toList S.files (ns.take k)).length + (Bz f.bytes).1.length <= 8796093022208:=by
     have h1:=HT.out
     rw [hrn.out] at h1
     have h2:=congrArg List.length h1
     rw [List.length_append] at h2
     omega
    clear hm1
    generalize ns[k] = n at *
    have hH:=H.out.below HB.out
    have c0:=hH.head.c0
    have HH:=hid hH
    have HF:=hid hf
    have hqr:=hH.head.lt
    obtain ⟨x,hx⟩ : ∃ x : ByteArray,x = ⟨f.bytes.toArray⟩:=⟨_,rfl⟩
    have HX:=hid hx
    have hxs : x.size <= 4398046511104:=by
     rw [hx]
     show f.bytes.toArray.size <= _
     rw [List.size_toArray]; exact hfz
    clear hH hf hx hfz
    go_wp2
    go_region_held3 (fun w' => w'.cell? ⟨q,0,none⟩ = some (.pointer (some ⟨p,0,none⟩))) (first | exact c0 | exact c0a)
     (first
     | (go_at_call 105; refine (Ha HH.out.drew.head HH.out.nm8 HH.out.drew.tab n hn8).mono ?_; rintro e w1 ⟨rfl,b1⟩; have c0a:=(HH.out.drew.below b1).head.c0; have B1:=hid b1; have hrd:=MU (HH.out.drew.below b1).box (LJ nm n) (Hp nm n HH.out.nm8); rw [EA,Bx.read_some HD.out HF.out,tx_of HX.out] at hrd; have HRD:=hid hrd; clear b1 hrd)
     | (go_at_call 104; refine HRD.out.mono ?_; rintro e w2 ⟨rfl,rfl⟩))
    all_goals
     go_wp2_with fail
     refine (Wh x (by omega) _).mono ?_
     rintro e w3 ⟨fv,rfl,hfo,fb⟩
     have hxl : x.data.toList = f.bytes:=by rw [HX.out]
     rw [hxl] at hfo
     have B3:=hid (A4 (A4 HB.out (Nat.le_refl _) (Co B1.out)) (Nat.le_refl _) fb)
     have hown1:=Ah (Ah HV.out (Co B1.out)) fb
     have hsz3:=B3.out.size
     clear fb hxl c0 c0a hcell
     obtain ⟨fa,fc,rfl⟩:=CK hfo
     go_wp2_with (first
      | (at_builtin; refine JK rfl (.tmp 38) (.tmp 39) 52 rfl w.heap.size 9 i0 (.string ⟨#[]⟩) 16 Tryz.underlying52 hi hz0 hz1 hz2 rfl _ _ _ rfl hown1 _ _ _ _ rfl hfo ?c1 ?c2 ?c3 ?c4 ?_))
     case c1 => exact AaT _
     case c2 => unfold maxLen; omega
     case c3 => omega
     case c4 => omega
     intro v' w4 hown' hgrow
     have HV2 : Hid (w4.ownsRow w.heap.size 9 1 v' (ES nm.data.toList S.files (ns.take (k + 1))).length ((ES nm.data.toList S.files (ns.take (k + 1))).map tx)):=by
      show World.ownsRow _ _ _ _ _ _ _
      rw [HT.out,hrn.out,List.length_append,List.map_append]
      exact hown'
     have HB4:=hid (B3.out.grown hgrow hsz3 (fun k hk => (hown1.lt k hk).1))
     clear hown1 hown' hgrow hfo
     go_wp2
     go_roundw
     case rel => exact ⟨k + 1,by omega,by go_num,HV2,HB4⟩
     case measure => simp [intOf]; omega
  · obtain rfl : k = ns.length:=by omega
    rw [List.take_length] at HV
    go_wp2
    go_ret2
    exact ⟨_,rfl,HV.out,HB.out⟩
set_option maxHeartbeats 1000000 in
set_option maxRecDepth 100000 in
theorem Zq {w : World} {p : Nat} {nm : ByteArray} {S : Bx} {F : Nat -> Prop} (h : AH w p S F) (hF : ∀ k,F k -> k < w.heap.size) (ht : Tab w) (hg : ¬ F 3) (h1 : 1 <= nm.size) (h8 : nm.size <= 8) (hd : S.down = false)
 (hc : F4 nm.data.toList S.files <= 99999999) (hz : ∀ x ∈ S.files,AE nm.data.toList x.1 ≠ 0 -> x.2.bytes.length <= 4398046511104) (hw : weigh S.files <= 8796093022208) :
 Calls Tryz.prog 44 #[.pointer (some ⟨p,0,none⟩),.string nm] w fun e w' => Abb w p nm S F e w':=by
 have hlw:=Fp S.files
 have hlen : S.files.length <= 8796093022208:=by omega
 have hsl:=J1 nm.data.toList S.files
 have hrc:=Mp nm.data.toList S.files
 have HRR:=hid (Vj (nm:=nm.data.toList) h.rising)
 have HNS : Hid (∀ n ∈ AD nm.data.toList S.files,n <= 99999999 /\ ∃ f,Am (Af nm.data.toList n) S.files = some f /\ f.bytes.length <= 4398046511104):=by
  intro n hn
  obtain ⟨x,hx,rfl,h0⟩:=Nk hn
  have hs:=Iy nm.data.toList x.1
  exact ⟨by omega,x.2,by rw [<- (JY h0).1]; exact KL h.rising hx,hz x hx h0⟩
 have hne : nm.toList.isEmpty = false:=by
  rw [ByteArray.toList_eq]
  cases hh : nm.data.toList with
  | nil =>
    have:=congrArg List.length hh
    rw [Array.length_toList] at this
    have h' : nm.size = 0:=this
    omega
  | cons a b => rfl
 have hne2 : ¬ nm.toList = []:=by intro hh; rw [hh] at hne; cases hne
 have hM:=fun (w1 : World) (hb : Below w.heap.size w w1) => Aaq (nm:=nm) h hF ht hg h1 h8 hb
 have HM:=hid hM
 have HD:=hid hd
 clear hM h ht hz hlw hd
 go_enter Tryz.func44,Tryz.ntmps44
 go_wp2_with fail
 refine (JB nm _ (by omega)).mono ?_
 rintro e w1 ⟨rfl,b1⟩
 have hL:=HM.out w1 b1
 have hb2:=b1.alloc b1.size (.cells #[.pointer (some ⟨p,0,none⟩),.string nm,.int .i64 1,.bool false] 125)
 have hqs:=b1.size
 go_wp2_with fail
 generalize w1.alloc (.cells #[.pointer (some ⟨p,0,none⟩),.string nm,.int .i64 1,.bool false] 125) = w2 at *
 generalize w1.heap.size = q at *
 have B2:=hid hb2
 have HL:=hid hL
 clear hb2 hL b1 HM
 refine (Kr HL.out hlen).mono ?_
 rintro e w3 ⟨v,rfl,ho,hb3⟩
 rw [if_neg (by rw [HD.out]; simp)] at ho
 have hd0 : (if S.down then (30 : Int) else 0) = 0:=by rw [HD.out]; rfl
 rw [hd0]
 have B3:=hid (A4 B2.out (Nat.le_refl _) hb3)
 have HL3:=hid (HL.out.below hb3)
 have HOW:=hid ho
 obtain ⟨ra,rc,rfl,hR⟩:=Ld ho (by omega)
 have hc2:=HL3.out.head.c2
 have hf2:=HL3.out.head.free 2
 have hnum : Hid (F4 nm.data.toList S.files = F4 nm.data.toList S.files):=rfl
 by_cases hn0 : (AD nm.data.toList S.files).length = 0
 · have hcur:=Wl hn0
   have H0:=hid hn0
   have HC:=hid hcur
   have hz0 : ((AD nm.data.toList S.files).length : Int) <= 0:=by omega
   clear ho hb3 hR hd0 hn0 hcur
   go_wp2_with fail
   refine (MW HL3.out HD.out HOW.out HNS.out (by rw [HRR.out]; omega) (by omega)).mono ?_
   rintro e w4 ⟨rv,rfl,hro,hb4⟩
   rw [HRR.out] at hro
   have B4:=hid (A4 B3.out (Nat.le_refl _) hb4)
   have HL4:=hid (HL3.out.below hb4)
   have HRO:=hid (ownsRow_base_a hro B3.out.size)
   clear hro hb4 hc2 hf2
   go_wp2
   refine bodyPost_ret (v:=.tuple #[.pointer (some ⟨q,0,none⟩),rv,.int .i64 0]) (by simp [results,Tryz.results44,go_sem]) rfl ?_
   refine ⟨q,rv,rfl,hqs,?_,HRO.out,B4.out⟩
   rw [HC.out]
   exact HL4.out
 · have hcur:=U2 (nm:=nm.data.toList) (l:=S.files) (by omega)
   obtain ⟨b,off,rfl,hbl,hcell⟩:=hR.at (k:=(AD nm.data.toList S.files).length - 1) (by omega)
   rw [LD (by omega)] at hcell
   have hq2:=HL.out.head.lt
   have hmem:=J1 nm.data.toList S.files
   have HG:=hid (show (AD nm.data.toList S.files).length = (AD nm.data.toList S.files).length from rfl)
   obtain ⟨n,hn⟩ : ∃ n,n = (AD nm.data.toList S.files)[(AD nm.data.toList S.files).length - 1]:=⟨_,rfl⟩
   rw [<- hn] at hcur hcell
   have hn8 : n + 1 <= 99999999:=by omega
   have HC:=hid hcur
   clear hcur hn hc
   obtain ⟨j,hj⟩ : ∃ j,(AD nm.data.toList S.files).length = j + 1:=⟨(AD nm.data.toList S.files).length - 1,by omega⟩
   have HJ:=hid hj
   have hjl : j + 1 <= 8796093022208:=by omega
   rw [hj] at hcell HOW
   simp only [hj]
   rw [Nat.add_sub_cancel] at hcell
   have hbl2 : b ≠ q:=by
    intro e
    subst e
    have h1:=HL3.out.head
    have h2 : ∃ cur,w3.heap[b]? = some (.cells cur 3 (0,0)):=by
     rcases HOW.out.2 with ⟨h1,_⟩ | ⟨g,cap,cur,h1,_,h2,_⟩
     · simp at h1
     · injection h1 with h1
       injection h1 with h1
       injection h1 with h1
       subst h1
       exact ⟨cur,h2⟩
    obtain ⟨cur,h2⟩:=h2
    unfold Bb at h1
    rw [h2] at h1
    simp at h1
   clear ho hb3 hR hd0 hn0 hj hmem hsl hnum
   have HLN : Hid (AW (w3.setCell ⟨q,2,none⟩ (.int .i64 ((n : Int) + 1))) q p nm (n + 1) false S F):=HL3.out.setTo (d:=n + 1) (by omega) hn8
   have HB4:=hid (B3.out.setCell (p:=⟨q,2,none⟩) hqs (.int .i64 ((n : Int) + 1)))
   have HO4:=hid (Lw (w:=w3) (q:=q) (v:=.int .i64 ((n : Int) + 1)) (i:=2) |>.row HOW.out (fun k hk e => by have:=(HOW.out.lt k hk).1; have e' : k = q:=e; omega))
   have hj0 : (0 : Int) <= (j : Int):=by omega
   have hj1 : (j : Int) < (j : Int) + 1:=by omega
   have hrc2 : (Dy nm.data.toList S.files).length <= 8796093022208:=by omega
   clear hrc hw hF
   have hwj : IntKind.i64.wrap ((j : Int) + 1 - 1) = (j : Int):=by rw [IntWalk.i64_in _ (by omega)]; omega
   go_upto_region 11 with (fail)
   clear hcell hc2 hf2
   generalize w3.setCell ⟨q,2,none⟩ (.int .i64 ((n : Int) + 1)) = w4 at *
   have hc4:=HLN.out.head.c2
   have hle : ¬ (99999999 : Int) < (n : Int) + 1:=by omega
   go_wp2_with fail
   have hro:=MW HLN.out HD.out (ns:=AD nm.data.toList S.files) (by rw [HJ.out]; exact HO4.out) HNS.out (by rw [HRR.out]; omega) (by rw [HJ.out]; omega)
   refine hro.mono ?_
   rintro e w5 ⟨rv,rfl,hro,hb5⟩
   rw [HRR.out] at hro
   have B5:=hid (A4 HB4.out (Nat.le_refl _) hb5)
   have HL5:=hid (HLN.out.below hb5)
   have HRO:=hid (ownsRow_base_a hro HB4.out.size)
   clear hro hb5 hc4
   go_wp2
   refine bodyPost_ret (v:=.tuple #[.pointer (some ⟨q,0,none⟩),rv,.int .i64 0]) (by simp [results,Tryz.results44,go_sem]) rfl ?_
   refine ⟨q,rv,rfl,hqs,?_,HRO.out,B5.out⟩
   rw [HC.out]
   exact HL5.out
end
section
open Go.RowKit
def Ox (B : Nat) (X : Nat -> Prop) : Nat -> Prop:=fun k => B <= k /\ ¬ X k
section
variable {E : Nat -> World -> Prop} {St : World -> Nat -> Nat -> Cv -> (Nat -> Prop) -> Prop} {Op : Bx -> List Aa -> Nat -> Prop} (K : Is E St Op) {B : Nat} {w0 w w' : World} {X : Nat -> Prop} {d b : Nat} {s s' : Cv} {F F' : Nat -> Prop}
include K
end
end
section
open Go.RowKit
def pA9 : Aa:=⟨⟨#[97]⟩,⟨#[49]⟩,false⟩
theorem L0 (w : World) (x : Aa) {W : World} {b : Nat} (h : W.heap[b]? = some (.cells #[.string x.key,.string x.val,.bool x.gone] 57 (0,0))) : Aj W (.slice (some ⟨b,0,none⟩) 1 1) [x]:=by
 refine ⟨by simp [maxLen],_,_,rfl,.inr ⟨b,0,rfl,fun i hi => ?_⟩⟩
 rw [Ab h,Ab h,Ab h]
 match i,hi with
 | 0,_ => exact ⟨rfl,rfl,rfl⟩
theorem Ht (w : World) : Aj w (.slice none 0 0) []:=⟨by simp,_,_,rfl,.inl rfl⟩
theorem Wk (F : Nat -> Prop) (w : World) : Eo F w (.slice none 0 0) []:=⟨⟨_,_,rfl,.inl rfl⟩,by simp,by simp⟩
section
variable {E : Nat -> World -> Prop} {St : World -> Nat -> Nat -> Cv -> (Nat -> Prop) -> Prop} {Op : Bx -> List Aa -> Nat -> Prop} (K : Is E St Op)
include K
end
end
section
open Go.RowKit
section
variable {E : Nat -> World -> Prop} {St : World -> Nat -> Nat -> Cv -> (Nat -> Prop) -> Prop} {Op : Bx -> List Aa -> Nat -> Prop} (K : Is E St Op)
include K
theorem Is.e_below {B : Nat} {w w' : World} (h : E B w) (t : Below w.heap.size w w') : E B w':=K.e_turn h (Ac.of_below (fun _ => False) t) (fun _ h => h.elim)
end
end
section
open Go.RowKit
structure Call9 where
 kind : Int
 bv : Value
 batch : List Aa
 key : ByteArray
 tu : ByteArray
 most : Int
 keep : Value
 ks : List Int
section
variable {W : World} {b : Nat} {c : Call9}
end
section
variable {E : Nat -> World -> Prop} {St : World -> Nat -> Nat -> Cv -> (Nat -> Prop) -> Prop} {Op : Bx -> List Aa -> Nat -> Prop} (K : Is E St Op) {B : Nat} {w0 w w' : World} {X Y : Nat -> Prop} {d b : Nat} {s s' : Cv}
include K
end
end
section
open Go.RowKit
structure DQ (E : Nat -> World -> Prop) (St : World -> Nat -> Nat -> Cv -> (Nat -> Prop) -> Prop) (B : Nat) (w0 : World) (X : Nat -> Prop) (w : World) (d b : Nat) (s : Cv) : Prop where
 e : E B w
 st : St w d b s (Ox B X)
 x : ∀ k,X k -> k < w.heap.size
 bel : Below B w0 w
structure Jb (E : Nat -> World -> Prop) (Op : Bx -> List Aa -> Nat -> Prop) (B : Nat) (w0 : World) (X : Nat -> Prop) (w : World) (b : Nat) (ms : List (List Aa)) (n : Nat) : Prop where
 e : E B w
 box : ∃ S,AH w b S (Ox B X) /\ weigh S.files <= limW /\ ∀ keep,∃ m ∈ ms,Op (S.crash keep) m n
 x : ∀ k,X k -> k < w.heap.size
 bel : Below B w0 w
structure Is9 (E : Nat -> World -> Prop) (Op : Bx -> List Aa -> Nat -> Prop) (B : Nat) (w0 : World) (X : Nat -> Prop) (w : World) (b : Nat) (S : Bx) (m : List Aa) (n : Nat) : Prop where
 e : E B w
 box : AH w b S (Ox B X)
 down : S.down = false
 op : Op S m n
 x : ∀ k,X k -> k < w.heap.size
 bel : Below B w0 w
section
variable {E : Nat -> World -> Prop} {St : World -> Nat -> Nat -> Cv -> (Nat -> Prop) -> Prop} {Op : Bx -> List Aa -> Nat -> Prop} (K : Is E St Op) {B : Nat} {w0 w w' : World} {X Y : Nat -> Prop} {d b n : Nat} {s s' : Cv} {F F' : Nat -> Prop} {S : Bx} {m : List Aa} {ms : List (List Aa)}
include K
theorem DQ.was (h : DQ E St B w0 X w d b s) : Jb E Op B w0 X w b [s.map] s.n:=
 ⟨h.e,⟨s.box,(K.box h.st).1,(K.good h.st).2.2.2.2,fun keep => ⟨s.map,by simp,K.hold h.st keep⟩⟩,h.x,h.bel⟩
theorem DQ.fresh (h : DQ E St B w0 X w d b s) (t : Ac (Ox B X) w w') {d' b' : Nat} (k : St w' d' b' s' F') (f : Cb (Ox B X) w F') : DQ E St B w0 X w' d' b' s':=by
 have hs:=K.e_size h.e
 refine ⟨K.e_turn h.e t (fun k hk => hk.1),K.mono k fun i hi => ?_,fun i hi => Nat.lt_of_lt_of_le (h.x i hi) t.size,h.bel.trans (t.below (fun i hi => hi.1) hs)⟩
 rcases f i hi with h1 | h1
 · exact h1
 · exact ⟨by omega,fun hx => by have:=h.x i hx; omega⟩
theorem DQ.fallen (h : DQ E St B w0 X w d b s) (t : Ac (Ox B X) w w') {S' : Bx} (k : Fe Op w' b S' F' ms n) (f : Cb (Ox B X) w F') : Jb E Op B w0 X w' b ms n:=by
 have hs:=K.e_size h.e
 obtain ⟨k1,k2,k3,k4⟩:=k
 refine ⟨K.e_turn h.e t (fun k hk => hk.1),⟨S',k1.mono fun i hi => ?_,k3,k4⟩,fun i hi => Nat.lt_of_lt_of_le (h.x i hi) t.size,h.bel.trans (t.below (fun i hi => hi.1) hs)⟩
 rcases f i hi with h1 | h1
 · exact h1
 · exact ⟨by omega,fun hx => by have:=h.x i hx; omega⟩
theorem DQ.laid (h : DQ E St B w0 X w d b s) (t : Below w.heap.size w w') : DQ E St B w0 (fun k => X k \/ (w.heap.size <= k /\ k < w'.heap.size)) w' d b s:=by
 have hs:=K.e_size h.e
 have t0:=Ac.of_below (fun _ => False) t
 refine ⟨K.e_turn h.e t0 (fun _ h => h.elim),K.mono (K.turn (K.tight h.st) t0 (fun _ _ h => h)) fun i hi => ⟨hi.1.1,fun hx => ?_⟩,fun i hi => ?_,h.bel.trans (t.mono hs)⟩
 · rcases hx with hx | hx
   · exact hi.1.2 hx
   · have:=hi.2; omega
 · rcases hi with hi | hi
   · exact Nat.lt_of_lt_of_le (h.x i hi) t.size
   · exact hi.2
theorem DQ.below (h : DQ E St B w0 X w d b s) (t : Below w.heap.size w w') : DQ E St B w0 X w' d b s:=by
 have h1:=h.laid K t
 exact ⟨h1.e,K.mono h1.st (fun i hi => ⟨hi.1,fun hx => hi.2 (.inl hx)⟩),fun i hi => Nat.lt_of_lt_of_le (h.x i hi) t.size,h1.bel⟩
theorem DQ.own (h : DQ E St B w0 X w d b s) {G : Nat -> Prop} (t : Ac G w w') (hG : ∀ k,G k -> X k /\ B <= k) : DQ E St B w0 (fun k => X k \/ (w.heap.size <= k /\ k < w'.heap.size)) w' d b s:=by
 have hs:=K.e_size h.e
 refine ⟨K.e_turn h.e t (fun k hk => (hG k hk).2),K.mono (K.turn (K.tight h.st) t (fun k hk g => hk.1.2 (hG k g).1)) fun i hi => ⟨hi.1.1,fun hx => ?_⟩,fun i hi => ?_,h.bel.trans (t.below (fun i hi => (hG i hi).2) hs)⟩
 · rcases hx with hx | hx
   · exact hi.1.2 hx
   · have:=hi.2; omega
 · rcases hi with hi | hi
   · exact Nat.lt_of_lt_of_le (h.x i hi) t.size
   · exact hi.2
omit K in
theorem AH.grow9 (hk : AH w b S (Ox B X)) {G : Nat -> Prop} (t : Ac G w w') (hG : ∀ k,G k -> X k) : AH w' b S (Ox B (fun k => X k \/ (w.heap.size <= k /\ k < w'.heap.size))):=by
 refine ((AH.tight hk).kept t (fun k hk g => hk.1.2 (hG k g))).mono fun i hi => ⟨hi.1.1,fun hx => ?_⟩
 rcases hx with hx | hx
 · exact hi.1.2 hx
 · have:=hi.2; omega
theorem Jb.own (h : Jb E Op B w0 X w b ms n) {G : Nat -> Prop} (t : Ac G w w') (hG : ∀ k,G k -> X k /\ B <= k) : Jb E Op B w0 (fun k => X k \/ (w.heap.size <= k /\ k < w'.heap.size)) w' b ms n:=by
 have hs:=K.e_size h.e
 obtain ⟨S,h1,h2⟩:=h.box
 refine ⟨K.e_turn h.e t (fun k hk => (hG k hk).2),⟨S,h1.grow9 t (fun k hk => (hG k hk).1),h2⟩,fun i hi => ?_,h.bel.trans (t.below (fun i hi => (hG i hi).2) hs)⟩
 rcases hi with hi | hi
 · exact Nat.lt_of_lt_of_le (h.x i hi) t.size
 · exact hi.2
theorem YY (h : DQ E St B w0 X w d b s) (f : Int) (hf : (Lit.int .i64 f).wf = true) :
 Calls Tryz.prog 23 #[.pointer (some ⟨b,0,none⟩),.int .i64 f] w fun e w' => e = .returned (.tuple #[]) /\ Ac (Ox B X) w w' /\ DQ E St B w0 X w' d b { s with box:=⟨s.box.files,f,s.box.down⟩ }:=by
 refine (K.fuel h.st f hf).mono ?_
 rintro e w1 ⟨rfl,t,st⟩
 exact ⟨rfl,t,h.fresh K t st (fun k hk => .inl hk)⟩
theorem OZ (h : Jb E Op B w0 X w b ms n) {v : Value} {ks : List Int} (hks : Eo (Ox B X) w v ks) :
 Calls Tryz.prog 20 #[.pointer (some ⟨b,0,none⟩),v] w fun e w' => Ac (Ox B X) w w' /\ ∃ q S m,e = .returned (.pointer (some ⟨q,0,none⟩)) /\ m ∈ ms /\ S.fuel < 0 /\ Is9 E Op B w0 X w' q S m n:=by
 obtain ⟨S,h1,h2,h3⟩:=h.box
 have hs:=K.e_size h.e
 have hbF : Ox B X b:=by obtain ⟨m,es,hh⟩:=h1; exact hh.fp
 refine (XG h1 hks (by unfold limW at h2; omega)).mono ?_
 rintro e w1 ⟨q,rfl,-,hq,t⟩
 have t1 : Ac (Ox B X) w w1:=t.mono (fun i hi => .inl (by subst hi; exact hbF))
 obtain ⟨m,hm,ho⟩:=h3 ks
 exact ⟨t1,q,_,m,rfl,hm,by show (-1 : Int) < 0; decide,K.e_turn h.e t1 (fun k hk => hk.1),hq.mono (fun k hk => ⟨by omega,fun hx => by have:=h.x k hx; omega⟩),rfl,ho,fun k hk => Nat.lt_of_lt_of_le (h.x k hk) t1.size,h.bel.trans (t1.below (fun i hi => hi.1) hs)⟩
end
end
section
open Go.RowKit
structure Cas (E : Nat -> World -> Prop) (St : World -> Nat -> Nat -> Cv -> (Nat -> Prop) -> Prop) (B : Nat) (w0 : World) (X : Nat -> Prop) (w : World) (c d b : Nat) (s : Cv) (k : Nat) : Prop where
 a : DQ E St B w0 (fun i => X i \/ i = c) w d b s
 blk : w.heap[c]? = some (.cells #[.pointer (some ⟨d,0,none⟩),.int .i64 (k : Int)] 73 (0,0))
 nx : ¬ X c
 lo : B <= c
def J8 (G : Nat -> Prop) (a : Option Addr) (l : List Aa) : Prop:=∀ g o,a = some ⟨g,o,none⟩ -> l ≠ [] -> ¬ G g
theorem Aj.turn {w w' : World} {G : Nat -> Prop} {a : Option Addr} {n c : Nat} {l : List Aa} (h : Aj w (.slice a n c) l) (t : Ac G w w') (hg : J8 G a l) : Aj w' (.slice a n c) l:=by
 obtain ⟨hm,a',c',e,h1⟩:=h
 injection e with e1 e2 e3
 subst e1; subst e2; subst e3
 refine ⟨hm,_,_,rfl,?_⟩
 rcases h1 with h1 | ⟨b,o,rfl,h1⟩
 · exact .inl h1
 · refine .inr ⟨b,o,rfl,fun i hi => ?_⟩
   obtain ⟨q0,q1,q2⟩:=h1 i hi
   have hb:=t.block b (World.block_lt_of_cell? _ ⟨b,_,none⟩ q0) (hg b o rfl (fun e => by subst e; cases hi))
   have e:=fun j => World.cell?_of_block (w:=w) (w':=w') (a:=⟨b,j,none⟩) hb
   exact ⟨(e _).trans q0,(e _).trans q1,(e _).trans q2⟩
section
variable {E : Nat -> World -> Prop} {St : World -> Nat -> Nat -> Cv -> (Nat -> Prop) -> Prop} {Op : Bx -> List Aa -> Nat -> Prop} (K : Is E St Op) {B : Nat} {w0 w w' : World} {X Y : Nat -> Prop} {c d b n k : Nat} {s s' : Cv} {F F' : Nat -> Prop} {S : Bx} {m : List Aa} {ms : List (List Aa)}
theorem DQ.iff (h : DQ E St B w0 X w d b s) (e : ∀ k,X k ↔ Y k) : DQ E St B w0 Y w d b s:=by
 rwa [show Y = X from funext fun k => propext (e k).symm]
theorem Uh {k : Nat} (h : Ox B (fun i => X i \/ i = c) k) : Ox B X k /\ k ≠ c:=⟨⟨h.1,fun x => h.2 (.inl x)⟩,fun x => h.2 (.inr x)⟩
theorem Ac.ox (t : Ac (Ox B (fun i => X i \/ i = c)) w w') : Ac (Ox B X) w w':=t.mono fun k hk => .inl (Uh hk).1
theorem Cas.c0 (h : Cas E St B w0 X w c d b s k) : w.cell? ⟨c,0,none⟩ = some (.pointer (some ⟨d,0,none⟩)):=(Ab h.blk 0).trans rfl
theorem Cas.c1 (h : Cas E St B w0 X w c d b s k) : w.cell? ⟨c,1,none⟩ = some (.int .i64 (k : Int)):=(Ab h.blk 1).trans rfl
theorem Cas.turn (h : Cas E St B w0 X w c d b s k) (t : Ac (Ox B (fun i => X i \/ i = c)) w w') (a : DQ E St B w0 (fun i => X i \/ i = c) w' d b s') : Cas E St B w0 X w' c d b s' k:=
 ⟨a,(t.block _ (Ad h.blk) (fun g => g.2 (.inr rfl))).trans h.blk,h.nx,h.lo⟩
include K
theorem Cas.size (h : Cas E St B w0 X w c d b s k) : B <= w.heap.size:=K.e_size h.a.e
theorem Cas.below (h : Cas E St B w0 X w c d b s k) (t : Below w.heap.size w w') : Cas E St B w0 X w' c d b s k:=
 ⟨h.a.below K t,(t.block _ (Ad h.blk)).trans h.blk,h.nx,h.lo⟩
theorem Cas.laid (h : Cas E St B w0 X w c d b s k) (t : Below w.heap.size w w') : Cas E St B w0 (fun k => X k \/ (w.heap.size <= k /\ k < w'.heap.size)) w' c d b s k:=
 ⟨(h.a.laid K t).iff fun i => by constructor <;> (intro g; rcases g with (g | g) | g <;> simp [g]),(t.block _ (Ad h.blk)).trans h.blk,fun g => by rcases g with g | g; exact h.nx g; have:=Ad h.blk; omega,h.lo⟩
theorem Cas.own (h : Cas E St B w0 X w c d b s k) {G : Nat -> Prop} (t : Ac G w w') (hG : ∀ k,G k -> X k /\ B <= k) : Cas E St B w0 (fun k => X k \/ (w.heap.size <= k /\ k < w'.heap.size)) w' c d b s k:=
 ⟨(h.a.own K t (fun k hk => ⟨.inl (hG k hk).1,(hG k hk).2⟩)).iff fun i => by constructor <;> (intro g; rcases g with (g | g) | g <;> simp [g]),(t.block _ (Ad h.blk) (fun g => h.nx (hG c g).1)).trans h.blk,fun g => by rcases g with g | g; exact h.nx g; have:=Ad h.blk; omega,h.lo⟩
theorem Cas.counted (h : Cas E St B w0 X w c d b s k) : Cas E St B w0 X (w.setCell ⟨c,1,none⟩ (.int .i64 ((k : Int) + 1))) c d b s (k + 1):=by
 have t : Ac (fun i => i = c) w (w.setCell ⟨c,1,none⟩ (.int .i64 ((k : Int) + 1))):=(Ac.refl (fun i => i = c) w).setCell (p:=⟨c,1,none⟩) (.inl rfl) _
 have a:=h.a.own K t (fun i hi => by subst hi; exact ⟨.inr rfl,h.lo⟩)
 have hz : (w.setCell ⟨c,1,none⟩ (.int .i64 ((k : Int) + 1))).heap.size = w.heap.size:=by simp
 refine ⟨a.iff fun i => ⟨fun g => ?_,.inl⟩,(block_set h.blk 1 _).trans rfl,h.nx,h.lo⟩
 rcases g with g | g
 · exact g
 · omega
theorem Cas.forget (h : Cas E St B w0 X w c d b s k) (hY : ∀ k,Y k -> X k) : Cas E St B w0 Y w c d b s k:=
 ⟨⟨h.a.e,K.mono h.a.st (fun k hk => ⟨hk.1,fun g => hk.2 (g.imp_left (hY k))⟩),fun k hk => h.a.x k (hk.imp_left (hY k)),h.a.bel⟩,h.blk,fun g => h.nx (hY c g),h.lo⟩
theorem Qu (h : DQ E St B w0 X w d b s) (k : ByteArray) :
 Calls Tryz.prog 36 #[.pointer (some ⟨d,0,none⟩),.string k] w fun e w' => e = .returned (.tuple #[.string (CE k s.map).1,.bool (CE k s.map).2,.int .i64 0]) /\ Ac (Ox B X) w w' /\ DQ E St B w0 X w' d b s:=by
 refine (K.get h.e h.st (fun k hk => hk.1) k).mono ?_
 rintro e w1 ⟨rfl,t,F',st,fr⟩
 exact ⟨rfl,t,h.fresh K t st fr⟩
theorem Yw (h : DQ E St B w0 X w d b s) (fr tu : ByteArray) (most : Int) (hm : (Lit.int .i64 most).wf = true) (hfr : fr.size <= 281474976710656) :
 Calls Tryz.prog 33 #[.pointer (some ⟨d,0,none⟩),.string fr,.string tu,.int .i64 most] w fun e w' => ∃ r,e = .returned (.tuple #[r,.int .i64 0]) /\ w'.ownsRow w.heap.size 57 3 r (I8 s.map fr tu most).length (AA (I8 s.map fr tu most)) /\ Ac (Ox B X) w w' /\ DQ E St B w0 (fun k => X k \/ r.ownBlock = some k) w' d b s:=by
 refine (K.scan h.e h.st (fun k hk => hk.1) fr tu most hm hfr).mono ?_
 rintro e w1 ⟨r,F',rfl,hr,ha,t,st,f⟩
 have u:=h.fresh K t st f
 refine ⟨r,rfl,hr,t,u.e,K.mono st fun i hi => ⟨?_,fun hx => ?_⟩,fun i hi => ?_,u.bel⟩
 · have:=K.e_size h.e
   rcases f i hi with h1 | h1
   · exact h1.1
   · omega
 · rcases hx with hx | hx
   · rcases f i hi with h1 | h1
     · exact h1.2 hx
     · have:=h.x i hx; omega
   · exact ha i hx hi
 · rcases hi with hi | hi
   · exact u.x i hi
   · exact (hr.lt i hi).2
theorem SU (h : DQ E St B w0 X w d b s) (hn : s.n <= limN) :
 Calls Tryz.prog 38 #[.pointer (some ⟨d,0,none⟩)] w fun e w' => Ac (Ox B X) w w' /\
  ((e = .returned (.int .i64 0) /\ ∃ s',DQ E St B w0 X w' d b s' /\ s'.map = s.map /\ s'.n = s.n + 1 /\ (s.box.fuel < 0 -> s'.box.fuel < 0)) \/ (0 <= s.box.fuel /\ e = .returned (.int .i64 30) /\ Jb E Op B w0 X w' b [s.map] (s.n + 1))):=by
 refine (K.flush h.e h.st (fun k hk => hk.1) hn).mono ?_
 rintro e w1 ⟨t,⟨rfl,s',F',st,fr,em,en,ez,ef,-⟩ | ⟨h0,rfl,S',F',fa,fr⟩⟩
 · exact ⟨t,.inl ⟨rfl,s',h.fresh K t st fr,em,en,ef⟩⟩
 · exact ⟨t,.inr ⟨h0,rfl,h.fallen K t fa fr⟩⟩
theorem OE (h : DQ E St B w0 X w d b s) (hn : s.n <= limN) :
 Calls Tryz.prog 39 #[.pointer (some ⟨d,0,none⟩)] w fun e w' => Ac (Ox B X) w w' /\
  ((e = .returned (.int .i64 0) /\ ∃ s',DQ E St B w0 X w' d b s' /\ s'.map = s.map /\ s'.n = s.n + 1 /\ (s.box.fuel < 0 -> s'.box.fuel < 0)) \/ (0 <= s.box.fuel /\ e = .returned (.int .i64 30) /\ Jb E Op B w0 X w' b [s.map] (s.n + 1))):=by
 refine (K.compact h.e h.st (fun k hk => hk.1) hn).mono ?_
 rintro e w1 ⟨t,⟨rfl,s',F',st,fr,em,en,ez,ef,-⟩ | ⟨h0,rfl,S',F',fa,fr⟩⟩
 · exact ⟨t,.inl ⟨rfl,s',h.fresh K t st fr,em,en,ef⟩⟩
 · exact ⟨t,.inr ⟨h0,rfl,h.fallen K t fa fr⟩⟩
theorem Rr (h : DQ E St B w0 X w d b s) {a : Option Addr} {cp : Nat} {l : List Aa} (hr : Aj w (.slice a l.length cp) l) (ho : J8 (Ox B X) a l) (h0 : A5 l = 0) (hn : s.n <= limN) :
 Calls Tryz.prog 31 #[.pointer (some ⟨d,0,none⟩),.slice a l.length cp] w fun e w' => Ac (Ox B X) w w' /\
  ((e = .returned (.int .i64 0) /\ ∃ s',DQ E St B w0 X w' d b s' /\ s'.map = AP s.map l /\ s'.n = s.n + 1 /\ (s.box.fuel < 0 -> s'.box.fuel < 0)) \/ (0 <= s.box.fuel /\ e = .returned (.int .i64 30) /\ Jb E Op B w0 X w' b [s.map,AP s.map l] (s.n + 1))):=by
 refine (K.write h.e h.st (fun k hk => hk.1) hr ho hn).mono ?_
 rintro e w1 ⟨t,⟨hc,-⟩ | ⟨-,rfl,s',F',st,fr,em,en,ez,ef,-⟩ | ⟨-,h1,rfl,S',F',fa,fr⟩⟩
 · exact absurd h0 hc
 · exact ⟨t,.inl ⟨rfl,s',h.fresh K t st fr,em,en,ef⟩⟩
 · exact ⟨t,.inr ⟨h1,rfl,h.fallen K t fa fr⟩⟩
theorem Xm (h : Is9 E Op B w0 X w b S m n) (hn : n <= limN) :
 Calls Tryz.prog 24 #[.pointer (some ⟨b,0,none⟩)] w fun e w' => Ac (Ox B X) w w' /\
  ((∃ d s,e = .returned (.tuple #[.pointer (some ⟨d,0,none⟩),.int .i64 0]) /\ DQ E St B w0 X w' d b s /\ s.map = m /\ s.n = n + 1 /\ (S.fuel < 0 -> s.box.fuel < 0)) \/ (0 <= S.fuel /\ (∃ p,e = .returned (.tuple #[.pointer p,.int .i64 30])) /\ Jb E Op B w0 X w' b [m] (n + 1))):=by
 have hs:=K.e_size h.e
 refine (K.opens h.e h.box (fun k hk => hk.1) h.down h.op hn).mono ?_
 rintro e w1 ⟨t,⟨d,s,F',rfl,st,fr,em,en,ez,ef,-⟩ | ⟨h0,p,S',F',rfl,fa,fr⟩⟩
 · refine ⟨t,.inl ⟨d,s,rfl,⟨K.e_turn h.e t (fun k hk => hk.1),K.mono st fun i hi => ?_,fun i hi => Nat.lt_of_lt_of_le (h.x i hi) t.size,h.bel.trans (t.below (fun i hi => hi.1) hs)⟩,em,en,ef⟩⟩
   rcases fr i hi with h1 | h1
   · exact h1
   · exact ⟨by omega,fun hx => by have:=h.x i hx; omega⟩
 · obtain ⟨k1,k2,k3,k4⟩:=fa
   refine ⟨t,.inr ⟨h0,⟨p,rfl⟩,K.e_turn h.e t (fun k hk => hk.1),⟨S',k1.mono fun i hi => ?_,k3,k4⟩,fun i hi => Nat.lt_of_lt_of_le (h.x i hi) t.size,h.bel.trans (t.below (fun i hi => hi.1) hs)⟩⟩
   rcases fr i hi with h1 | h1
   · exact h1
   · exact ⟨by omega,fun hx => by have:=h.x i hx; omega⟩
end
end
section
open Go.RowKit
structure FJ where
 kind : Int
 cv : Value
 conds : List Aa
 bv : Value
 batch : List Aa
 key : ByteArray
 frm : ByteArray
 most : Int
 all : Bool
structure Ou (w : World) (c : FJ) : Prop where
 rc : Aj w c.cv c.conds
 read : Aj w c.bv c.batch
 kind : (Lit.int .i64 c.kind).wf = true
 key : c.key.size <= 140737488351232
 frm : c.frm.size <= 140737488351232
 most : (Lit.int .i64 c.most).wf = true
def Jr (w : World) (x : Value) (cs : List FJ) : Prop:=
 cs.length <= 9223372036854775807 /\ ∃ a c,x = .slice a cs.length c /\ (cs = [] \/ ∃ b o,a = some ⟨b,o,none⟩ /\ ∀ i (h : i < cs.length),
  w.cell? ⟨b,o + i * 7,none⟩ = some (.int .i64 cs[i].kind) /\ w.cell? ⟨b,o + i * 7 + 1,none⟩ = some cs[i].cv /\ w.cell? ⟨b,o + i * 7 + 2,none⟩ = some cs[i].bv /\ w.cell? ⟨b,o + i * 7 + 3,none⟩ = some (.string cs[i].key) /\ w.cell? ⟨b,o + i * 7 + 4,none⟩ = some (.string cs[i].frm) /\
  w.cell? ⟨b,o + i * 7 + 5,none⟩ = some (.int .i64 cs[i].most) /\ w.cell? ⟨b,o + i * 7 + 6,none⟩ = some (.bool cs[i].all) /\ Ou w cs[i])
theorem Jr.at {w0 w : World} {a : Option Addr} {n c : Nat} {cs : List FJ} (h : Jr w0 (.slice a n c) cs) (t : Below w0.heap.size w0 w) {i : Nat} (hi : i < cs.length) : ∃ b o,a = some ⟨b,o,none⟩ /\
 w.cell? ⟨b,o + i * 7,none⟩ = some (.int .i64 cs[i].kind) /\ w.cell? ⟨b,o + i * 7 + 1,none⟩ = some cs[i].cv /\ w.cell? ⟨b,o + i * 7 + 2,none⟩ = some cs[i].bv /\ w.cell? ⟨b,o + i * 7 + 3,none⟩ = some (.string cs[i].key) /\ w.cell? ⟨b,o + i * 7 + 4,none⟩ = some (.string cs[i].frm) /\
 w.cell? ⟨b,o + i * 7 + 5,none⟩ = some (.int .i64 cs[i].most) /\ w.cell? ⟨b,o + i * 7 + 6,none⟩ = some (.bool cs[i].all) /\ Ou w0 cs[i]:=by
 obtain ⟨hm,a',c',hv,h1⟩:=h
 injection hv with e1 e2 e3
 subst e1
 rcases h1 with h1 | ⟨b,o,rfl,h1⟩
 · subst h1; cases hi
 · obtain ⟨q0,q1,q2,q3,q4,q5,q6,ok⟩:=h1 i hi
   have hb : b < w0.heap.size:=World.block_lt_of_cell? w0 ⟨b,_,none⟩ q0
   have e:=fun j => t.cell (p:=⟨b,j,none⟩) hb
   exact ⟨b,o,rfl,(e _).trans q0,(e _).trans q1,(e _).trans q2,(e _).trans q3,(e _).trans q4,(e _).trans q5,(e _).trans q6,ok⟩
def CA (W : World) (b : Nat) (c : FJ) : Prop:=W.heap[b]? = some (.cells #[.int .i64 c.kind,c.cv,c.bv,.string c.key,.string c.frm,.int .i64 c.most,.bool c.all] 36 (0,0))
section
variable {W : World} {b : Nat} {c : FJ}
theorem CA.new (W : World) (c : FJ) : CA (W.alloc (.cells #[.int .i64 c.kind,c.cv,c.bv,.string c.key,.string c.frm,.int .i64 c.most,.bool c.all] 36)) W.heap.size c:=World.alloc_heap_new W _
theorem CA.cs (h : CA W b c) : W.cell? ⟨b,0,none⟩ = some (.int .i64 c.kind) /\ W.cell? ⟨b,1,none⟩ = some c.cv /\ W.cell? ⟨b,2,none⟩ = some c.bv /\ W.cell? ⟨b,3,none⟩ = some (.string c.key) /\ W.cell? ⟨b,4,none⟩ = some (.string c.frm) /\ W.cell? ⟨b,5,none⟩ = some (.int .i64 c.most) /\ W.cell? ⟨b,6,none⟩ = some (.bool c.all):=by
 refine ⟨?_,?_,?_,?_,?_,?_,?_⟩ <;> (rw [World.cell?,show W.heap[b]? = _ from h]; rfl)
end
theorem EO {w0 : World} {a : Option Addr} {n c : Nat} {l : List Aa} {X : Nat -> Prop} (h : Aj w0 (.slice a n c) l) : J8 (Ox w0.heap.size X) a l:=fun g o e hl hk => by
 subst e
 have hp : 0 < l.length:=List.length_pos_iff.2 hl
 obtain ⟨b,o2,e,q,-⟩:=h.at hp
 injection e with e
 injection e with e1
 subst e1
 have h1 : g < w0.heap.size:=World.block_lt_of_cell? w0 _ q
 have h2:=hk.1
 omega
structure A7 (B : Nat) (X : Nat -> Prop) (w : World) (mb : Nat) (M : List Aa) (n : Nat) : Prop where
 m : ∃ va vc,w.heap[mb]? = some (.cells #[.slice va M.length vc,.int .i64 (n : Int)] 34 (0,0)) /\ w.ownsRow 0 57 3 (.slice va M.length vc) M.length (AA M) /\ ∀ k,(Value.slice va M.length vc).ownBlock = some k -> X k
 xm : X mb
 lo : B <= mb
section
variable {B mb n : Nat} {X Y : Nat -> Prop} {w w' : World} {M : List Aa}
theorem A7.turn (h : A7 B X w mb M n) {G : Nat -> Prop} (t : Ac G w w') (hG : ∀ k,X k -> ¬ G k) : A7 B X w' mb M n:=by
 obtain ⟨va,vc,h1,h2,h3⟩:=h.m
 exact ⟨⟨va,vc,(t.block _ (Ad h1) (hG _ h.xm)).trans h1,t.row h2 (fun k hk => hG k (h3 k hk)),h3⟩,h.xm,h.lo⟩
theorem A7.ox (h : A7 B X w mb M n) (t : Ac (Ox B X) w w') : A7 B X w' mb M n:=h.turn t fun k hk g => g.2 hk
theorem A7.below (h : A7 B X w mb M n) (t : Below w.heap.size w w') : A7 B X w' mb M n:=h.turn (Ac.of_below (fun _ => False) t) (fun _ _ h => h)
theorem A7.more (h : A7 B X w mb M n) (hY : ∀ k,X k -> Y k) : A7 B Y w mb M n:=by
 obtain ⟨va,vc,h1,h2,h3⟩:=h.m
 exact ⟨⟨va,vc,h1,h2,fun k hk => hY k (h3 k hk)⟩,hY _ h.xm,h.lo⟩
end
end
section
open Go.RowKit
theorem KW {w : World} {c d : Nat} (h : w.cell? ⟨c,0,none⟩ = some (.pointer (some ⟨d,0,none⟩))) :
 Calls Tryz.prog 32 #[.pointer (some ⟨c,0,none⟩)] w fun e w' => e = .returned (.pointer (some ⟨d,0,none⟩)) /\ w' = w:=by
 go_enter Tryz.func32,Tryz.ntmps32
 go_wp2
 go_ret
 exact ⟨rfl,rfl⟩
theorem Abc {p : List UInt8} {j : Nat} (h : j < p.length) (h0 : behR (p.drop (j + 1)) = []) : behR p = if p[j] < 255 then p.take j ++ [p[j] + 1] else behR (p.take j):=by
 have e:=Td (p.take j) (p.drop j)
 rw [List.take_append_drop,List.drop_eq_getElem_cons h,Hd,h0] at e
 rw [e]
 by_cases h1 : p[j] < 255 <;> simp [h1]
theorem XE {p : List UInt8} {j : Nat} (h : j < p.length) (h0 : behR (p.drop (j + 1)) = []) (h1 : ¬ p[j] < 255) : behR (p.drop j) = []:=by
 rw [List.drop_eq_getElem_cons h,Hd,h0,if_pos rfl,if_neg h1]
theorem Abg (a b : ByteArray) (t : Array TypeId) (y : TypeId) (w : World) : (Builtin.max_ t y #[.string a,.string b]).run Tryz.prog w = .ok (.string (NL a b)) w:=by
 show (Builtin.max2 (.string a) (.string b)).run Tryz.prog w = _
 unfold NL
 cases hb : AO a b <;> simp [Builtin.max2,Op.stringOp,show Op.bytesLess a.toList b.toList = _ from hb,asBool]
theorem IB (p : ByteArray) : p.data.toList.length = p.size:=by rw [Array.length_toList]; rfl
set_option maxHeartbeats 1000000 in
set_option maxRecDepth 100000 in
theorem Va (p : ByteArray) (hp : p.size <= 140737488351232) (w : World) :
 Calls Tryz.prog 34 #[.string p] w fun e w' => e = .returned (.string (I6 p)) /\ Below w.heap.size w w':=by
 go_enter Tryz.func34,Tryz.ntmps34
 go_wp2
 go_loop [3] (fun iv => ∃ j : Nat,j <= p.size /\ iv = .int .i64 ((j : Int) - 1) /\ Hid (behR (p.data.toList.drop j) = [])) (fun iv => (intOf iv + 1).toNat)
 case atStart => exact ⟨p.size,Nat.le_refl _,by go_num,by rw [List.drop_of_length_le (Nat.le_of_eq (IB p))]; rfl⟩
 case round =>
  obtain ⟨j,hj,rfl,hr⟩:=hrel
  cases j with
  | zero =>
    rw [show (((0 : Nat) : Int) - 1) = -1 from rfl]
    have HE : Hid (I6 p = ⟨#[]⟩):=by
     have h1 : behR p.data.toList = []:=by simpa using hr.out
     show I6 p = _
     unfold I6
     rw [h1]
    go_wp2
    go_ret
    exact ⟨by rw [HE.out]; rfl,Below.refl _ _⟩
  | succ j =>
    rw [show (((j + 1 : Nat) : Int) - 1) = (j : Int) by omega]
    have hlt : j < p.size:=by omega
    have hL : j < p.data.toList.length:=by rw [IB]; exact hlt
    have HAT:=hid (Abc hL hr.out)
    have HDR:=hid (XE hL hr.out)
    have he : p.data.toList[j] = p[j]:=rfl
    rw [he] at HAT HDR
    generalize hx : p[j] = x at *
    by_cases h5 : x < 255
    · have h6 : x.toNat < 255:=h5
      obtain ⟨y,HY⟩ : ∃ y : UInt8,Hid (y = x + 1):=⟨_,rfl⟩
      have hyn : y.toNat = x.toNat + 1:=by rw [HY.out,UInt8.toNat_add]; have : (1 : UInt8).toNat = 1:=rfl; omega
      have hy2 : ((x.toNat : Int) + 1) % 256 = (y.toNat : Int):=by omega
      have hy : IntKind.u8.wrap ((x.toNat : Int) + 1) = (y.toNat : Int):=by rw [IntKind.wrap_u8]; exact hy2
      have HB : Hid (I6 p = p.extract 0 j ++ ⟨#[y]⟩):=by
       show I6 p = _
       have h7:=HAT.out
       rw [if_pos h5] at h7
       unfold I6
       rw [h7,<- HY.out]
       refine ByteArray.ext (Array.ext' ?_)
       simp [ByteArray.data_append,ByteArray.data_extract]
      have hsz : ¬ 9223372036854775807 < (p.extract 0 j).size + 1:=by rw [ByteArray.size_extract]; omega
      have hcv : (convert 55 9 (.slice (some ⟨w.heap.size,0,none⟩) 1 1)).run Tryz.prog (w.alloc (.cells #[.int .u8 (y.toNat : Int)] 5)).drew = .ok (.string ⟨#[y]⟩) (w.alloc (.cells #[.int .u8 (y.toNat : Int)] 5)).drew:=
       run_convert_bytes_back (P:=Tryz.prog) (w.alloc (.cells #[.int .u8 (y.toNat : Int)] 5)).drew 55 9 5 ⟨w.heap.size,0,none⟩ 1 [y] Tryz.underlying55 Tryz.underlying5 Tryz.underlying9 (fun i hi => by
        have h1:=Gg w (.int .u8 (y.toNat : Int)) 5 i (.int .u8 (y.toNat : Int)) (by match i,hi with | 0,_ => rfl)
        match i,hi with
        | 0,_ => exact h1)
      have hjp : j <= p.size:=by omega
      clear HAT HDR hr h5 hyn
      go_wp2
      go_region
      go_wp2
      go_ret
      exact ⟨by rw [HB.out]; rfl,((Below.refl _ w).alloc (Nat.le_refl _) _).drew⟩
    · have h6 : ¬ x.toNat < 255:=h5
      go_wp2
      go_round
      case rel => exact ⟨j,by omega,by go_num,HDR.out h5⟩
      case measure => simp [intOf]
section
variable {E : Nat -> World -> Prop} {St : World -> Nat -> Nat -> Cv -> (Nat -> Prop) -> Prop} {Op : Bx -> List Aa -> Nat -> Prop} (K : Is E St Op) {B : Nat} {w0 w w' : World} {X Y : Nat -> Prop} {c d b n k : Nat} {s s' : Cv}
theorem DJ (h : Cas E St B w0 X w c d b s k) : Calls Tryz.prog 21 #[.pointer (some ⟨c,0,none⟩)] w fun e w' => e = .returned (.int .i64 (k : Int)) /\ w' = w:=by
 have h1:=h.c1
 go_enter Tryz.func21,Tryz.ntmps21
 go_wp2
 go_ret
 exact ⟨rfl,rfl⟩
include K
theorem Ab3 (h : Cas E St B w0 X w c d b s k) : Calls Tryz.prog 28 #[.pointer (some ⟨c,0,none⟩)] w fun e w' => e = .returned (.bool false) /\ Ac (Ox B X) w w' /\ Cas E St B w0 X w' c d b s k:=by
 have hp:=hid (KW h.c0)
 have hg:=hid (Qu K h.a ⟨#[]⟩)
 have H:=hid h
 clear h
 go_enter Tryz.func28,Tryz.ntmps28
 go_wp2_with fail
 refine hp.out.mono ?_
 rintro e w1 ⟨rfl,rfl⟩
 go_wp2_with fail
 refine hg.out.mono ?_
 rintro e w2 ⟨rfl,t,a⟩
 have H2:=hid (H.out.turn t a)
 have T:=hid t.ox
 clear t a
 go_wp2
 go_ret
 exact ⟨rfl,T.out,H2.out⟩
theorem Abw (h : Cas E St B w0 X w c d b s k) (key : ByteArray) : Calls Tryz.prog 17 #[.pointer (some ⟨c,0,none⟩),.string key] w fun e w' => e = .returned (.tuple #[.string (CE key s.map).1,.bool (CE key s.map).2,.int .i64 0]) /\ Ac (Ox B X) w w' /\ Cas E St B w0 X w' c d b s k:=by
 have hp:=hid (KW h.c0)
 have hg:=hid (Qu K h.a key)
 have H:=hid h
 clear h
 go_enter Tryz.func17,Tryz.ntmps17
 go_wp2_with fail
 refine hp.out.mono ?_
 rintro e w1 ⟨rfl,rfl⟩
 go_wp2_with fail
 refine hg.out.mono ?_
 rintro e w2 ⟨rfl,t,a⟩
 have H2:=hid (H.out.turn t a)
 have T:=hid t.ox
 clear t a
 go_wp2
 go_ret3
 exact ⟨rfl,T.out,H2.out⟩
set_option maxHeartbeats 1000000 in
set_option maxRecDepth 100000 in
theorem IV (h : Cas E St B w0 X w c d b s k) (pre fr : ByteArray) (most : Int) (hm : (Lit.int .i64 most).wf = true) (hp : pre.size <= 140737488351232) (hf : fr.size <= 140737488351232) :
 Calls Tryz.prog 14 #[.pointer (some ⟨c,0,none⟩),.string pre,.string fr,.int .i64 most] w fun e w' => ∃ r,e = .returned (.tuple #[r,.int .i64 0]) /\ w'.ownsRow w.heap.size 57 3 r (BI s.map pre fr most).length (AA (BI s.map pre fr most)) /\ Ac (Ox B X) w w' /\ Cas E St B w0 (fun k => X k \/ r.ownBlock = some k) w' c d b s k:=by
 have hmx : (NL pre fr).size <= 281474976710656:=by unfold NL; split <;> omega
 have hpr:=hid (KW h.c0)
 have hmax:=Abg pre fr
 have HBE : Hid (∀ w,Calls Tryz.prog 34 #[.string pre] w fun e w' => e = .returned (.string (I6 pre)) /\ Below w.heap.size w w'):=fun w => Va pre hp w
 have HSC : Hid (∀ w1,Below w.heap.size w w1 -> Calls Tryz.prog 33 #[.pointer (some ⟨d,0,none⟩),.string (NL pre fr),.string (I6 pre),.int .i64 most] w1 fun e w' => ∃ r,e = .returned (.tuple #[r,.int .i64 0]) /\ w'.ownsRow w.heap.size 57 3 r (BI s.map pre fr most).length (AA (BI s.map pre fr most)) /\ Ac (Ox B X) w w' /\ Cas E St B w0 (fun k => X k \/ r.ownBlock = some k) w' c d b s k):=fun w1 b1 => by
  have h1:=h.below K b1
  refine (Yw K h1.a (NL pre fr) (I6 pre) most hm hmx).mono ?_
  rintro e w2 ⟨r,rfl,hr,t,a⟩
  rw [Zw] at hr
  have hlt:=Ad h.blk
  refine ⟨r,rfl,Au hr b1.size,(Ac.of_below _ b1).trans t.ox (fun i hi => .inl hi),a.iff fun i => ?_,(t.block _ (Ad h1.blk) (fun g => g.2 (.inr rfl))).trans h1.blk,fun g => ?_,h.lo⟩
  · constructor <;> (intro g; rcases g with (g | g) | g <;> simp [g])
  · rcases g with g | g
    · exact h.nx g
    · have:=(hr.lt c g).1; have:=b1.size; omega
 clear h hm
 go_enter Tryz.func14,Tryz.ntmps14
 go_wp2_with fail
 refine hpr.out.mono ?_
 rintro e w1 ⟨rfl,rfl⟩
 go_wp2_with fail
 refine (HBE.out w1).mono ?_
 rintro e w2 ⟨rfl,b2⟩
 have HS2:=hid (HSC.out w2 b2)
 clear HSC HBE b2
 go_wp2_with fail
 refine HS2.out.mono ?_
 rintro e w3 ⟨r,rfl,hr,t3,h3⟩
 obtain ⟨ra,rc,rfl⟩:=An hr
 have HR:=hid hr
 have H3:=hid h3
 clear hr h3 HS2
 go_wp2
 go_ret2
 exact ⟨_,rfl,HR.out,t3,H3.out⟩
end
end
section
open Go.RowKit
section
variable {E : Nat -> World -> Prop} {St : World -> Nat -> Nat -> Cv -> (Nat -> Prop) -> Prop} {Op : Bx -> List Aa -> Nat -> Prop} (K : Is E St Op) {B : Nat} {w0 w w' : World} {X Y : Nat -> Prop} {c d b n k : Nat} {s s' : Cv} {S : Bx} {m : List Aa}
include K
set_option maxHeartbeats 1000000 in
set_option maxRecDepth 100000 in
theorem Abi (h : Cas E St B w0 X w c d b s k) {a : Option Addr} {cp : Nat} {cs : List Aa} (hr : Aj w (.slice a cs.length cp) cs) (ho : J8 (Ox B X) a cs) :
 Calls Tryz.prog 30 #[.pointer (some ⟨c,0,none⟩),.slice a cs.length cp] w fun e w' => e = .returned (.int .i64 (GL s.map cs : Nat)) /\ Ac (Ox B X) w w' /\ Cas E St B w0 X w' c d b s k:=by
 have hmx : cs.length <= 9223372036854775807:=by have:=hr.1; unfold maxLen at this; omega
 have H:=hid h
 have HR:=hid hr
 have HO:=hid ho
 clear h hr ho
 go_enter Tryz.func30,Tryz.ntmps30
 go_wp2
 go_loopw [12] (fun iv wr => ∃ i : Nat,i <= cs.length /\ iv = .int .i64 (i : Int) /\ Hid ((cs.take i).all (D9 s.map) = true /\ Ac (Ox B X) w wr /\ Cas E St B w0 X wr c d b s k)) (fun iv _ => cs.length - (intOf iv).toNat)
 case atStart => exact ⟨0,Nat.zero_le _,rfl,rfl,Ac.refl _ _,H.out⟩
 case round =>
  obtain ⟨i,hil,rfl,HI⟩:=hrel
  by_cases hlt : i < cs.length
  · have hmes : cs.length - (intOf (.int .i64 ((i : Int) + 1))).toNat < cs.length - (intOf (.int .i64 (i : Int))).toNat:=by simp [intOf]; omega
    obtain ⟨b0,o0,rfl,q0,q1,q2⟩:=(HR.out.turn HI.out.2.1 HO.out).at hlt
    have HNX:=hid (Sx hlt HI.out.1)
    have HST:=hid (Ku (m:=s.map) hlt)
    have hbl : Below wr.heap.size wr (wr.alloc (.cells #[.string cs[i].key,.string cs[i].val,.bool cs[i].gone] 57)):=(Below.refl _ wr).alloc (Nat.le_refl _) _
    have hpx : AF (wr.alloc (.cells #[.string cs[i].key,.string cs[i].val,.bool cs[i].gone] 57)) wr.heap.size cs[i]:=AF.new wr cs[i]
    generalize cs[i] = x at *
    have H1:=hid ((HI.out.2.2.laid K hbl).below K (Db _))
    have T1:=hid ((HI.out.2.1.trans (Ac.of_below (Ox B X) hbl) (fun i hi => .inl hi)).drew)
    have c0:=(HI.out.2.2.laid K hbl).c0
    have hxl : wr.heap.size <= wr.heap.size /\ wr.heap.size < (wr.alloc (.cells #[.string x.key,.string x.val,.bool x.gone] 57)).heap.size:=⟨Nat.le_refl _,by simp⟩
    have HXL:=hid hxl
    have HPX:=hid hpx
    obtain ⟨xk,xv,xg⟩:=x
    simp only at q0 q1 q2
    obtain ⟨y0,y1,y2⟩ : _ /\ _ /\ _:=⟨hpx.c0,hpx.c1,hpx.c2⟩
    simp only at y0 y1 y2
    clear hbl hpx hxl
    go_upto_region 4 with (fail)
    go_region_held3 (fun w' => w'.cell? ⟨c,0,none⟩ = some (.pointer (some ⟨d,0,none⟩)) /\ w'.cell? ⟨wr.heap.size,0,none⟩ = some (.string xk)) (first | exact ⟨c0,y0⟩ | exact ⟨c0a,y0a⟩)
     (first | (go_at_call 36; refine (Qu K H1.out.a xk).mono ?_; rintro e w5 ⟨rfl,t5,a5⟩; have H5:=hid ((H1.out.turn t5 a5).forget K (fun i hi => Or.inl hi)); have T5:=hid (T1.out.trans t5 (fun i hi => Or.inl ⟨hi.1,fun g => hi.2 (.inl (.inl g))⟩)); have P5:=hid ((t5.block _ (Ad HPX.out) (fun g => g.2 (.inl (.inr HXL.out)))).trans HPX.out); have c0a:=H5.out.c0; have y0a:=(show AF w5 wr.heap.size ⟨xk,xv,xg⟩ from P5.out).c0; clear t5 a5))
    have z1:=(show AF w5 wr.heap.size ⟨xk,xv,xg⟩ from P5.out).c1
    have z2:=(show AF w5 wr.heap.size ⟨xk,xv,xg⟩ from P5.out).c2
    simp only at z1 z2
    clear y0 y1 y2 q0 q1 q2 c0 c0a y0a H1 T1 HPX
    unfold D9 at HNX HST
    simp only at HNX HST
    generalize CE xk s.map = V at *
    obtain ⟨vv,vt⟩:=V
    simp only
    cases vt with
    | false =>
      cases xg with
      | false =>
        have HE:=hid (HST.out (by simp))
        clear HST HNX
        go_wp2
        go_ret
        exact ⟨by rw [HE.out]; rfl,T5.out,H5.out⟩
      | true =>
        have HN:=hid (HNX.out (by simp))
        clear HST HNX
        go_wp2
        go_roundw
        case rel => exact ⟨i + 1,by omega,by go_num,HN.out,T5.out,H5.out⟩
        case measure => exact hmes
    | true =>
      cases xg with
      | true =>
        have HE:=hid (HST.out (by simp))
        clear HST HNX
        go_wp2
        go_ret
        exact ⟨by rw [HE.out]; rfl,T5.out,H5.out⟩
      | false =>
        by_cases hv : vv = xv
        · subst hv
          have HN:=hid (HNX.out (by simp))
          clear HST HNX
          go_wp2
          go_roundw
          case rel => exact ⟨i + 1,by omega,by go_num,HN.out,T5.out,H5.out⟩
          case measure => exact hmes
        · have hne : (vv.toList == xv.toList) = false:=by rw [JC]; simp [hv]
          have HE:=hid (HST.out (by simp [hv]))
          clear HST HNX hv
          go_wp2
          go_ret
          exact ⟨by rw [HE.out]; rfl,T5.out,H5.out⟩
  · obtain rfl : i = cs.length:=by omega
    rw [List.take_length] at HI
    go_wp2
    go_ret
    exact ⟨by rw [Oi HI.out.1]; rfl,HI.out.2⟩
set_option maxHeartbeats 1000000 in
set_option maxRecDepth 100000 in
theorem Abm (h : Cas E St B w0 X w c d b s k) {a1 a2 : Option Addr} {c1 c2 : Nat} {cs l : List Aa} (hc : Aj w (.slice a1 cs.length c1) cs) (hoc : J8 (Ox B X) a1 cs) (hr : Aj w (.slice a2 l.length c2) l) (ho : J8 (Ox B X) a2 l) (hn : s.n <= limN) (hk : k <= 1048576) :
 Calls Tryz.prog 13 #[.pointer (some ⟨c,0,none⟩),.slice a1 cs.length c1,.slice a2 l.length c2] w fun e w' => Ac (Ox B X) w w' /\
  ((doC s.map cs l ≠ 0 /\ e = .returned (.int .i64 (doC s.map cs l : Nat)) /\ Cas E St B w0 X w' c d b s k) \/
   (doC s.map cs l = 0 /\ e = .returned (.int .i64 0) /\ ∃ s',Cas E St B w0 X w' c d b s' (k + 1) /\ s'.map = AP s.map l /\ s'.n = s.n + 1 /\ (s.box.fuel < 0 -> s'.box.fuel < 0)) \/
   (doC s.map cs l = 0 /\ 0 <= s.box.fuel /\ e = .returned (.int .i64 30) /\ Jb E Op B w0 (fun i => X i \/ i = c) w' b [s.map,AP s.map l] (s.n + 1))):=by
 have hx1 : cs.length <= 9223372036854775807:=by have:=hc.1; unfold maxLen at this; omega
 have hx2 : l.length <= 9223372036854775807:=by have:=hr.1; unfold maxLen at this; omega
 have HD:=hid (Ab3 K h)
 have HC:=hid hc
 have HOC:=hid hoc
 have HR:=hid hr
 have HO:=hid ho
 clear h hc hoc hr ho
 go_enter Tryz.func13,Tryz.ntmps13
 go_wp2_with fail
 refine HD.out.mono ?_
 rintro e w1 ⟨rfl,t1,h1⟩
 have HC1:=hid (HC.out.turn t1 HOC.out)
 have HR1:=hid (HR.out.turn t1 HO.out)
 have T1:=hid t1
 have H1:=hid h1
 clear HD HC HR t1 h1
 by_cases hl : 64 < cs.length
 · have HDC:=hid (KV (m:=s.map) (l:=l) hl)
   have hl2 : (64 : Int) < cs.length:=by omega
   go_wp2
   go_ret
   exact ⟨T1.out,.inl ⟨by rw [HDC.out]; decide,by rw [HDC.out]; rfl,H1.out⟩⟩
 have hl2 : ¬ (64 : Int) < cs.length:=by omega
 have HL:=hid hl
 have HCK:=hid (K.check HR1.out)
 clear hl
 by_cases hz : A5 l = 0
 · rw [hz] at HCK
   have HZ:=hid hz
   clear hz
   go_wp2_with fail
   refine HCK.out.mono ?_
   rintro e w2 ⟨rfl,b2⟩
   have H2:=hid (H1.out.below K b2)
   have HC2:=hid (HC1.out.below b2)
   have HR2:=hid (HR1.out.below b2)
   have T2:=hid (T1.out.trans (Ac.of_below (Ox B X) b2) (fun i hi => .inl hi))
   have HCC:=hid (Abi K H2.out HC2.out HOC.out)
   clear b2 HCK H1 HC1 HR1 T1
   have HDC0:=hid (Hj (m:=s.map) HL.out HZ.out)
   rcases SL s.map cs with ha | ha
   · have HDC:=hid (show doC s.map cs l = 0 from HDC0.out.trans ha)
     rw [ha] at HCC
     clear ha
     go_wp2_with fail
     refine HCC.out.mono ?_
     rintro e w3 ⟨rfl,t3,h3⟩
     have HR3:=hid (HR2.out.turn t3 HO.out)
     have T3:=hid (T2.out.trans t3 (fun i hi => .inl hi))
     have hc0:=h3.c0
     have H3:=hid h3
     have HW:=hid (Rr K h3.a HR3.out (fun g o e hl hk => HO.out g o e hl (Uh hk).1) HZ.out hn)
     clear t3 h3 HCC
     go_wp2_with fail
     refine HW.out.mono ?_
     rintro e w4 ⟨t4,⟨rfl,s4,a4,em,en,ef⟩ | ⟨h0,rfl,wa⟩⟩
     · have H4:=hid (H3.out.turn t4 a4)
       have hc1:=H4.out.c1
       have hfz:=Ag H4.out.blk 1
       have T4:=hid (T3.out.trans t4.ox (fun i hi => .inl hi))
       have HE:=hid (And.intro em (And.intro en ef))
       clear t4 a4 hc0 em en ef
       go_wp2
       go_ret
       refine ⟨T4.out.setCell (p:=⟨c,1,none⟩) (.inl ⟨H4.out.lo,H4.out.nx⟩) _,.inr (.inl ⟨HDC.out,rfl,s4,?_,HE.out⟩)⟩
       exact H4.out.counted K
     · have HWA:=hid wa
       have T4:=hid (T3.out.trans t4.ox (fun i hi => .inl hi))
       clear t4 wa hc0
       go_wp2
       go_ret
       exact ⟨T4.out,.inr (.inr ⟨HDC.out,h0,rfl,HWA.out⟩)⟩
   · have HDC:=hid (show doC s.map cs l = 100 from HDC0.out.trans ha)
     rw [ha] at HCC
     clear ha
     go_wp2_with fail
     refine HCC.out.mono ?_
     rintro e w3 ⟨rfl,t3,h3⟩
     have T3:=hid (T2.out.trans t3 (fun i hi => .inl hi))
     have H3:=hid h3
     clear t3 h3 HCC
     go_wp2
     go_ret
     exact ⟨T3.out,.inl ⟨by rw [HDC.out]; decide,by rw [HDC.out]; rfl,H3.out⟩⟩
 · have HDC:=hid (J2 (m:=s.map) HL.out hz)
   have hzi : ((A5 l : Int) != 0) = true:=by simpa using hz
   have HZ:=hid hz
   generalize A5 l = q at *
   go_wp2_with fail
   refine HCK.out.mono ?_
   rintro e w2 ⟨rfl,b2⟩
   have H2:=hid (H1.out.below K b2)
   have T2:=hid (T1.out.trans (Ac.of_below (Ox B X) b2) (fun i hi => .inl hi))
   clear b2 HCK hz
   go_wp2
   go_ret
   exact ⟨T2.out,.inl ⟨by rw [HDC.out]; exact HZ.out,by rw [HDC.out]; rfl,H2.out⟩⟩
end
end
end Go.Proofs.YtnafjlhohbhcoaaGreatDoor

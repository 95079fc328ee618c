/- Parts of the proof. -/
import Derived.Test.YtnafjlhohbhcoaaGreatDoorQ21
import Derived.Test.YtnafjlhohbhcoaaGreatDoorQ04
import Derived.Laws.MakeOwn
import Derived.BigRegion
import Derived.Laws.AppendOwnNone
namespace Go.Proofs.YtnafjlhohbhcoaaGreatDoor
open Go.Lib (hid)
set_option linter.unusedVariables false
section
open Go.RowKit
def EU (l : List UInt8) : Array Value:=(l.map bv).toArray
def IU (w : World) (B : Nat) (l : List UInt8) : Prop:=w.heap[B]? = some (.cells (EU l) 5 (0,0))
theorem P0 {l : List UInt8} {i : Nat} (h : i < l.length) : (EU l)[i]? = some (bv l[i]):=by simp [EU,h]
theorem TC (l : List UInt8) (i : Nat) (x : UInt8) : (EU l).setIfInBounds i (bv x) = EU (l.set i x):=by simp [EU,List.map_set]
theorem IU.set {w : World} {B : Nat} {l : List UInt8} (h : IU w B l) (i : Nat) (x : UInt8) : IU (w.setCell ⟨B,i,none⟩ (bv x)) B (l.set i x):=by
 unfold IU
 rw [<- TC]
 exact block_set h i _
theorem IU.own {w : World} {B : Nat} {l : List UInt8} (h : IU w B l) (hl : l.length <= maxLen) : w.ownsRow 0 5 1 (.slice (some ⟨B,0,none⟩) l.length l.length) l.length (l.map bv):=
 ⟨by simp,.inr ⟨B,l.length,EU l,rfl,Nat.zero_le _,h,Nat.le_refl _,hl,by simp [EU],by simp [EU,List.take_of_length_le]⟩⟩
theorem UT (n : Nat) : madeCells (Value.int .u8 0).cells (n * 1) = EU (List.replicate n 0):=by
 apply Array.ext_getElem?
 intro i
 by_cases h : i < n
 · rw [P0 (by simpa using h)]
   simp [madeCells,Value.cells,h,bv,Nat.mod_one]
 · rw [Array.getElem?_eq_none (by simp [madeCells]; omega),Array.getElem?_eq_none (by simp [EU]; omega)]
theorem Wm {l : List UInt8} {k j r : Nat} (hj : k / 8 = j) (hr : k % 8 = r) (h : j < l.length) : GX l k = l.set j (l[j] ||| (1 <<< UInt8.ofNat r)):=by
 have e : l.getD j 0 = l[j]:=by simp [List.getD,h]
 unfold GX
 rw [hj,hr,e]
theorem ZC {K j r : Nat} (hj : K / 8 = j) (hr : K % 8 = r) : ((K : Int).tdiv 8) = (j : Int) /\ ((K : Int) / 8) = (j : Int) /\ ((K : Int).tmod 8) = (r : Int) /\ ((K : Int) % 8) = (r : Int) /\ r < 8:=by
 have d2 : ((K : Int) / 8) = (j : Int):=by omega
 have d5 : ((K : Int) % 8) = (r : Int):=by omega
 exact ⟨by rw [Int.tdiv_eq_ediv_of_nonneg (Int.natCast_nonneg _)]; exact d2,d2,by rw [Int.tmod_eq_emod_of_nonneg (Int.natCast_nonneg _)]; exact d5,d5,by omega⟩
theorem Ni {j : Nat} (h : j <= 8192) : wrap64 (j : Int) = (j : Int):=IntWalk.wrap64_in _ (by omega)
theorem Rk {j : Nat} (h : j <= 8192) : IntKind.i64.wrap (j : Int) = (j : Int):=by rw [IntKind.wrap_i64]; omega
@[irreducible] def Oj (ks : List ByteArray) (n : Int) : ByteArray:=if 1 <= n /\ n <= 8192 then ⟨(Fa ks n.toNat).toArray⟩ else ⟨#[]⟩
@[irreducible] def Ru (n : Int) : Nat:=if 1 <= n /\ n <= 8192 then 0 else 1
end
section
open Go.RowKit
def Keys6 (w : World) (a : Option Addr) (ks : List ByteArray) : Prop:=GY w a ks.length (fun i => .string (ks.getD i ByteArray.empty)) /\ ∀ i,(ks.getD i ByteArray.empty).size <= 140737488351232
def kB : ByteArray:=⟨#[98]⟩
end
section
open Go.RowKit
theorem infoStr6 : (Tryz.prog.info? 9).map (fun i => (i.zero,i.size,i.bytes)) = some (some (.string ⟨#[]⟩),1,16):=by kernel_rfl
def S0 (l : List ByteArray) : List Value:=l.map fun s => .string s
set_option maxRecDepth 100000 in
theorem YX {w : World} {base : Nat} {v : Value} {ks : List ByteArray} (h : w.ownsRow base 9 1 v ks.length (S0 ks)) (hz : ∀ i,(ks.getD i ByteArray.empty).size <= 140737488351232) (hm : ks.length <= 8796093022208) : ∃ a c,v = .slice a ks.length c /\ Keys6 w a ks:=by
 have hr:=h
 rcases h.2 with ⟨rfl,h0⟩ | ⟨g,cap,cur,rfl,_,hg,hle,hcm,_⟩
 · exact ⟨none,0,by rw [h0],⟨by omega,.inl h0⟩,hz⟩
 · refine ⟨some ⟨g,0,none⟩,cap,rfl,⟨by omega,.inr ⟨g,0,rfl,Ad hg,fun i hi => ?_⟩⟩,hz⟩
   rw [Nat.zero_add]
   refine (hr.cellAt i (by omega)).trans ?_
   have : (S0 ks)[i]? = some (.string ks[i]):=by simp [S0,hi]
   rw [this]
   simp [List.getD,hi]
end
section
open Go.RowKit
theorem Yc (a : Nat) (c : UInt8) (ha : a < 4294967296) : bits .xor .u32 (a : Int) (c.toNat : Int) * 16777619 % 4294967296 = ((NJ a c : Nat) : Int):=by
 have hc:=UInt8.toNat_lt c
 rw [u32_xor_nat a c.toNat ha (by omega)]
 unfold NJ
 omega
theorem XX (b : Nat) (c : UInt8) (hb : b < 4294967296) :
 bits .xor .u32 (((b : Int) + (c.toNat : Int)) % 4294967296 * 2246822507 % 4294967296) (((b : Int) + (c.toNat : Int)) % 4294967296 * 2246822507 % 4294967296 / 8192) = ((NF b c : Nat) : Int):=by
 have hc:=UInt8.toNat_lt c
 have e1 : (((b : Int) + (c.toNat : Int)) % 4294967296 * 2246822507 % 4294967296) = (((b + c.toNat) * 2246822507 % 4294967296 : Nat) : Int):=by omega
 have e2 : (((b + c.toNat) * 2246822507 % 4294967296 : Nat) : Int) / 8192 = (((b + c.toNat) * 2246822507 % 4294967296 / 8192 : Nat) : Int):=by omega
 unfold NF
 rw [e1,e2]
 exact u32_xor_nat _ _ (Nat.mod_lt _ (by omega)) (by omega)
set_option maxHeartbeats 1000000 in
set_option maxRecDepth 100000 in
theorem ZJ (s : ByteArray) (hs : s.size <= maxLen) (w : World) :
 Calls Tryz.prog 252 #[.string s] w fun e w' => e = .returned (.tuple #[.int .u32 (LW s : Nat),.int .u32 (M8 s : Nat)]) /\ w' = w:=by
 unfold maxLen at hs
 have hAB:=hid (And.intro foldA_lt Rt)
 go_enter Tryz.func252,Tryz.ntmps252
 go_wp2
 go_loop [4,5,10] (fun a b i => ∃ (k : Nat),k <= s.size /\ i = .int .i64 (k : Int) /\ a = .int .u32 (IM (s.data.toList.take k) : Nat) /\ b = .int .u32 (Hb (s.data.toList.take k) : Nat)) (fun _ _ i => s.size - (intOf i).toNat)
 case atStart => exact ⟨0,by omega,rfl,by show _ = Value.int .u32 (startA : Nat); rw [startA_eq]; rfl,by show _ = Value.int .u32 (startB : Nat); rw [startB_eq]; rfl⟩
 case round =>
  obtain ⟨k,hk,rfl,rfl,rfl⟩:=hrel
  by_cases hlt : k < s.size
  · have ha:=hAB.out.1 (s.data.toList.take k)
    have hb:=hAB.out.2 (s.data.toList.take k)
    have hc:=UInt8.toNat_lt s[k]
    have HA:=hid (UK (l:=s.data.toList) (k:=k) (by simpa using hlt))
    have HB:=hid (Uz (l:=s.data.toList) (k:=k) (by simpa using hlt))
    generalize IM (s.data.toList.take k) = a at *
    generalize Hb (s.data.toList.take k) = b at *
    go_wp2
    go_round
    case rel => exact ⟨k + 1,by omega,by go_num,by rw [HA.out]; exact congrArg (Value.int .u32) (Yc a _ ha),by rw [HB.out]; exact congrArg (Value.int .u32) (XX b _ hb)⟩
    case measure => simp [intOf]; omega
  · obtain rfl : k = s.size:=by omega
    have e : s.data.toList.take s.size = s.data.toList:=List.take_of_length_le (by simp)
    rw [e]
    have ha:=hAB.out.1 s.data.toList
    have hb:=hAB.out.2 s.data.toList
    have HO : Hid (bits .or .u32 (Hb s.data.toList : Nat) 1 = ((Hb s.data.toList ||| 1 : Nat) : Int)):=u32_or_nat _ 1 hb (by omega)
    have HE : Hid (LW s = IM s.data.toList /\ M8 s = Hb s.data.toList ||| 1):=⟨by unfold LW; rfl,by unfold M8; rfl⟩
    generalize IM s.data.toList = a at *
    generalize Hb s.data.toList = b at *
    go_wp2
    go_ret2
    exact ⟨by rw [HE.out.1,HE.out.2,<- HO.out]; rfl,rfl⟩
def Yd (k : Nat) : UInt8:=1 <<< UInt8.ofNat (k % 8)
theorem Abp (r : Nat) (h : r < 8) : (2 : Int) ^ r % 256 = (((1 : UInt8) <<< UInt8.ofNat r).toNat : Int):=by
 match r,h with
 | 0,_ | 1,_ | 2,_ | 3,_ | 4,_ | 5,_ | 6,_ | 7,_ => decide
set_option maxHeartbeats 1000000 in
set_option maxRecDepth 100000 in
theorem ST (k : Nat) (h : k < 4294967296) (w : World) :
 Calls Tryz.prog 237 #[.int .u32 (k : Int)] w fun e w' => e = .returned (.int .u8 ((Yd k).toNat : Int)) /\ w' = w:=by
 obtain ⟨r,hr⟩ : ∃ r,k % 8 = r:=⟨_,rfl⟩
 have d5 : ((k : Int) % 8) = (r : Int):=by omega
 have hrlt : r < 8:=by omega
 have hp:=Abp r hrlt
 have hr1 : (0 : Int) <= (r : Int):=by omega
 have hr2 : (r : Int) < 8:=by omega
 unfold Yd
 rw [hr]
 go_enter Tryz.func237,Tryz.ntmps237
 go_wp2
 go_ret
 exact ⟨by rw [<- hp]; rfl,rfl⟩
def DY (f : Nat -> Nat) : Array Value:=#[.int .u32 (f 0 : Nat),.int .u32 (f 1 : Nat),.int .u32 (f 2 : Nat),.int .u32 (f 3 : Nat)]
theorem Uc (f : Nat -> Nat) {i : Nat} (h : i < 4) : (DY (TU f i)).setIfInBounds i (.int .u32 (f i : Nat)) = DY (TU f (i + 1)):=by
 match i,h with
 | 0,_ | 1,_ | 2,_ | 3,_ => simp [DY,TU]
theorem WW (f : Nat -> Nat) : DY (TU f 4) = DY f:=by simp [DY,TU]
theorem Yu (f : Nat -> Nat) {i : Nat} (h : i < 4) : (DY f)[i]? = some (.int .u32 (f i : Nat)):=by
 match i,h with
 | 0,_ | 1,_ | 2,_ | 3,_ => rfl
theorem info4u : (Tryz.prog.info? 275).map (·.size) = some 4:=by kernel_rfl
set_option maxHeartbeats 1000000 in
set_option maxRecDepth 100000 in
theorem Tk (s : ByteArray) (hs : s.size <= maxLen) (n : Nat) (h1 : 0 < n) (h2 : n <= 8192) (w : World) :
 Calls Tryz.prog 236 #[.string s,.int .i64 (n : Nat)] w fun e w' => e = .returned (.agg (DY (Ic s n))) /\ Below w.heap.size w w':=by
 have hA:=Yl s
 have hB:=YK s
 have HK : Hid (∀ i,Ic s n i = (LW s + i * M8 s) % 4294967296 % (8 * n)):=fun i => by unfold Ic; rfl
 have hcall:=fun w => ZJ s hs w
 generalize Ic s n = f at *
 generalize LW s = a at *
 generalize M8 s = b at *
 have g8 : wrap64 (8 * (n : Int)) = 8 * (n : Int):=IntWalk.wrap64_in _ (by omega)
 have g9 : (8 * (n : Int)) % 4294967296 = 8 * (n : Int):=by omega
 have g10 : ¬ ((8 * (n : Int)) = 0):=by omega
 go_enter Tryz.func236,Tryz.ntmps236
 go_wp2_with fail
 refine (hcall _).mono ?_
 rintro e w1 ⟨rfl,rfl⟩
 go_wp2
 go_loopw [6,14] (fun kv iv wr => ∃ (i k : Nat),i <= 4 /\ iv = .int .i64 (i : Int) /\ kv = .int .u32 (k : Int) /\ Hid (k = (a + i * b) % 4294967296) /\ k < 4294967296 /\ wr.heap[w.heap.size]? = some (.cells (DY (fun _ => 0)) 275 (0,0)) /\ wr.heap[w.heap.size + 1]? = some (.cells (DY (TU f i)) 275 (0,0)) /\ Below w.heap.size w wr) (fun _ iv _ => 4 - (intOf iv).toNat)
 case atStart =>
  have s1:=heap_alloc_new w (.cells (DY (fun _ => 0)) 275)
  have s2:=heap_alloc_new (w.alloc (.cells (DY (fun _ => 0)) 275)) (.cells (DY (fun _ => 0)) 275)
  rw [World.size_alloc] at s2
  exact ⟨0,a,by omega,rfl,rfl,(by show a = (a + 0 * b) % 4294967296; omega),hA,(Below.heap_alloc (w.alloc (.cells (DY (fun _ => 0)) 275)) (.cells (DY (fun _ => 0)) 275) w.heap.size (by simp)).trans s1,s2,((Below.refl _ w).alloc (Nat.le_refl _) _).alloc (by simp) _⟩
 case round =>
  obtain ⟨i,k,hi,rfl,rfl,hk,hkl,g0,g1,hb⟩:=hrel
  by_cases hlt : i < 4
  · have c0 : wr.cell? ⟨w.heap.size + 1,i,none⟩ = some (.int .u32 (TU f i i : Nat)):=by rw [Ab g1]; exact Yu _ hlt
    have f0 : wr.frozen? ⟨w.heap.size + 1,i,none⟩ = false:=Ag g1 i
    have HV : Hid ((k : Int) % (8 * (n : Int)) = ((f i : Nat) : Int)):=by
     show _ = _
     rw [HK.out i,<- hk.out,Int.natCast_emod,Int.natCast_mul]
     rfl
    have HW : Hid (((k : Int) + (b : Int)) % 4294967296 = (((a + (i + 1) * b) % 4294967296 : Nat) : Int)):=by
     show _ = _
     rw [hk.out,Nat.add_mul,Nat.one_mul,<- Nat.add_assoc]
     generalize a + i * b = x
     omega
    have G0:=hid g0
    have G1:=hid g1
    have HB:=hid hb
    clear g0 g1 hb
    go_wp2
    go_roundw
    case rel =>
     refine ⟨i + 1,(a + (i + 1) * b) % 4294967296,by omega,by go_num,?_,rfl,Nat.mod_lt _ (by omega),?_,?_,?_⟩
     · exact congrArg (Value.int .u32) HW.out
     · exact (Cr (by omega)).trans G0.out
     · rw [HV.out,<- Uc f hlt]
       exact block_set G1.out i _
     · exact HB.out.setCell (p:=⟨w.heap.size + 1,i,none⟩) (by simp) _
    case measure => simp [intOf]; omega
  · obtain rfl : i = 4:=by omega
    rw [WW] at g1
    have q0 : ∀ j,wr.frozen? ⟨w.heap.size,j,none⟩ = false:=Ag g0
    have p0 : wr.cell? ⟨w.heap.size,0,none⟩ = some (.int .u32 0):=by rw [Ab g0]; rfl
    have p1 : wr.cell? ⟨w.heap.size,1,none⟩ = some (.int .u32 0):=by rw [Ab g0]; rfl
    have p2 : wr.cell? ⟨w.heap.size,2,none⟩ = some (.int .u32 0):=by rw [Ab g0]; rfl
    have p3 : wr.cell? ⟨w.heap.size,3,none⟩ = some (.int .u32 0):=by rw [Ab g0]; rfl
    have r0 : wr.cell? ⟨w.heap.size + 1,0,none⟩ = some (.int .u32 (f 0 : Nat)):=by rw [Ab g1]; rfl
    have r1 : wr.cell? ⟨w.heap.size + 1,1,none⟩ = some (.int .u32 (f 1 : Nat)):=by rw [Ab g1]; rfl
    have r2 : wr.cell? ⟨w.heap.size + 1,2,none⟩ = some (.int .u32 (f 2 : Nat)):=by rw [Ab g1]; rfl
    have r3 : wr.cell? ⟨w.heap.size + 1,3,none⟩ = some (.int .u32 (f 3 : Nat)):=by rw [Ab g1]; rfl
    have G0:=hid g0
    have HB:=hid hb
    clear g0 g1 hb
    have hld:=block_set (block_set (block_set (block_set G0.out 0 (.int .u32 (f 0 : Nat))) 1 (.int .u32 (f 1 : Nat))) 2 (.int .u32 (f 2 : Nat))) 3 (.int .u32 (f 3 : Nat))
    have HLD:=hid hld
    clear hld
    go_wp2
    refine bodyPost_ret (v:=.agg (DY f)) (results_cell_row rfl _ _ w.heap.size _ (DY f) (0,0) _ rfl HLD.out Tryz.underlying275 rfl info4u) rfl ⟨rfl,?_⟩
    exact (((HB.out.setCell (p:=⟨w.heap.size,0,none⟩) (Nat.le_refl _) _).setCell (p:=⟨w.heap.size,1,none⟩) (Nat.le_refl _) _).setCell (p:=⟨w.heap.size,2,none⟩) (Nat.le_refl _) _).setCell (p:=⟨w.heap.size,3,none⟩) (Nat.le_refl _) _
end
section
open Go.RowKit
theorem OW (t : ByteArray) (h : 0 < t.size) : (t.toList == []) = false /\ t.toList ≠ []:=by
 have e : t.toList ≠ []:=fun e => by
  have e2 : t.toList.length = t.size:=by rw [ByteArray.toList_eq]; simp
  rw [e] at e2
  simp at e2
  omega
 exact ⟨by simpa using e,e⟩
theorem Rb (f : Nat -> Nat) : ∀ w,(Instr.index 275 (.agg (DY f)) (.int .i64 ((0 : Nat) : Int))).run Tryz.prog w = .ok (.int .u32 (f 0 : Nat)) w:=fun _ => by kernel_rfl
theorem Rg (f : Nat -> Nat) : ∀ w,(Instr.index 275 (.agg (DY f)) (.int .i64 ((1 : Nat) : Int))).run Tryz.prog w = .ok (.int .u32 (f 1 : Nat)) w:=fun _ => by kernel_rfl
theorem R8 (f : Nat -> Nat) : ∀ w,(Instr.index 275 (.agg (DY f)) (.int .i64 ((2 : Nat) : Int))).run Tryz.prog w = .ok (.int .u32 (f 2 : Nat)) w:=fun _ => by kernel_rfl
theorem Sg (f : Nat -> Nat) : ∀ w,(Instr.index 275 (.agg (DY f)) (.int .i64 ((3 : Nat) : Int))).run Tryz.prog w = .ok (.int .u32 (f 3 : Nat)) w:=fun _ => by kernel_rfl
theorem Oe (f : Nat -> Nat) {i : Nat} (h : i < 4) (w : World) : (Instr.index 275 (.agg (DY f)) (.int .i64 (i : Int))).run Tryz.prog w = .ok (.int .u32 (f i : Nat)) w:=by
 match i,h with
 | 0,_ => exact Rb f w
 | 1,_ => exact Rg f w
 | 2,_ => exact R8 f w
 | 3,_ => exact Sg f w
theorem AaL (x r : Nat) : (((x &&& 2 ^ r : Nat) : Int) == 0) = !x.testBit r:=by
 cases h : x.testBit r with
 | true =>
   have h1 : (x &&& 2 ^ r).testBit r = true:=by rw [Nat.testBit_and,h,Nat.testBit_two_pow_self]; rfl
   have h2 : x &&& 2 ^ r ≠ 0:=fun e => by rw [e,Nat.zero_testBit] at h1; cases h1
   rw [beq_eq_false_iff_ne.2 (by omega)]; rfl
 | false =>
   have h1 : x &&& 2 ^ r = 0:=by
    refine Nat.eq_of_testBit_eq fun j => ?_
    rw [Nat.testBit_and,Nat.zero_testBit,Nat.testBit_two_pow]
    by_cases e : r = j
    · rw [<- e,h]; rfl
    · rw [decide_eq_false e,Bool.and_false]
   rw [h1]; rfl
theorem Abo (x : UInt8) {r : Nat} (h : r < 8) : (bits .and .u8 (x.toNat : Int) (((1 : UInt8) <<< UInt8.ofNat r).toNat : Int) == 0) = !x.toNat.testBit r:=by
 have hx:=UInt8.toNat_lt x
 have hp : 2 ^ r <= 2 ^ 7:=Nat.pow_le_pow_right (by omega) (by omega)
 rw [u8_and_nat _ _ (by omega) (by rw [QC r h]; omega),QC r h]
 exact AaL _ _
set_option maxHeartbeats 1000000 in
set_option maxRecDepth 100000 in
theorem AaZ (t s : ByteArray) (ht : t.size <= maxLen) (hs : s.size <= maxLen) (w : World) :
 Calls Tryz.prog 226 #[.string t,.string s] w fun e w' => e = .returned (.bool (FU t.data.toList s)) /\ Below w.heap.size w w':=by
 have hm : t.size <= 9223372036854775807:=by unfold maxLen at ht; omega
 by_cases h1 : 1 <= t.size /\ t.size <= 8192
 · have hK : FU t.data.toList s = FW t.data.toList s 4:=by
     unfold FU
     rw [show t.data.toList.length = t.size by simp,decide_eq_true h1,Bool.true_and]
   rw [hK]
   obtain ⟨h1,h2⟩:=h1
   obtain ⟨hne,hne2⟩:=OW t (by omega)
   have hcall:=fun w => Tk s hs t.size (by omega) h2 w
   have hlt8:=Qj s (n:=t.size) (by omega)
   have HT : Hid (∀ i,FW t.data.toList s (i + 1) = (FW t.data.toList s i && Ee t.data.toList (Ic s t.size i))):=fun i => by
    have:=UU t.data.toList s i
    rwa [show t.data.toList.length = t.size by simp] at this
   generalize Ic s t.size = f at *
   go_enter Tryz.func226,Tryz.ntmps226
   clear hK
   go_wp2_with fail
   refine (hcall _).mono ?_
   rintro e w1 ⟨rfl,b1⟩
   have B1:=hid b1
   clear b1
   go_wp2
   go_loopw [18] (fun iv wr => ∃ i : Nat,i <= 4 /\ iv = .int .i64 (i : Int) /\ Hid (FW t.data.toList s i = true) /\ Hid (∃ n,wr = w1.drewN n)) (fun iv _ => 4 - (intOf iv).toNat)
   case atStart => exact ⟨0,by omega,rfl,(by show FW t.data.toList s 0 = true; unfold FW; rfl),⟨0,rfl⟩⟩
   case round =>
    obtain ⟨i,hi,rfl,hto,hwr⟩:=hrel
    by_cases hlt : i < 4
    · have c0:=fun w => Oe f hlt w
      have hf:=hlt8 i
      have HN:=hid (HT.out i)
      generalize f i = k at *
      obtain ⟨q,hq⟩ : ∃ q,k / 8 = q:=⟨_,rfl⟩
      obtain ⟨r,hr⟩ : ∃ r,k % 8 = r:=⟨_,rfl⟩
      have hqn : q < t.size:=by omega
      have hk32 : k < 4294967296:=by omega
      have d7 : IntKind.u32.wrap (q : Int) = (q : Int):=Abv q (by omega)
      have d3 : wrap64 (q : Int) = (q : Int):=Ni (by omega)
      obtain ⟨d1,d2,d4,d5,hrlt⟩:=ZC hq hr
      have hq1 : (0 : Int) <= (q : Int):=Int.natCast_nonneg _
      have hq2 : (q : Int) < (t.size : Int):=Int.ofNat_lt.2 hqn
      have HQ:=hid hq
      have HR:=hid hr
      clear hq hf
      have hmask:=fun w => ST k hk32 w
      have hbit:=W9 HQ.out HR.out hqn
      have hev:=Abo t[q] hrlt
      obtain ⟨M,hM⟩ : ∃ M,(1 : UInt8) <<< UInt8.ofNat r = M:=⟨_,rfl⟩
      have hb8 : Yd k = M:=by unfold Yd; rw [hr,hM]
      rw [hb8] at hmask
      rw [hM] at hev
      have HNX : Hid (t[q].toNat.testBit r = true -> FW t.data.toList s (i + 1) = true):=fun e => by rw [HN.out,hto.out,hbit,e]; rfl
      have HNO : Hid (t[q].toNat.testBit r = false -> FW t.data.toList s 4 = false):=fun e => by
       have e1 : FW t.data.toList s (i + 1) = false:=by rw [HN.out,hbit,e,Bool.and_false]
       cases h4 : FW t.data.toList s 4 with
       | false => rfl
       | true =>
         have:=(LO t.data.toList s (i + 1)).2 (fun j hj => (LO t.data.toList s 4).1 h4 j (by omega))
         rw [e1] at this; cases this
      clear hbit HN hr hb8 hM
      go_wp2_with fail
      go_quiet (first | (go_at_call 237; refine Calls.quiet_of_same (hmask _)))
      cases htb : t[q].toNat.testBit r with
      | true =>
        have HA:=hid (HNX.out htb)
        clear hev HNX HNO htb
        go_wp2
        go_roundw
        case rel =>
         obtain ⟨n,rfl⟩:=hwr.out
         exact ⟨i + 1,by omega,by go_num,HA.out,⟨_,by rw [World.drewN_drewN]⟩⟩
        case measure => simp [intOf]; omega
      | false =>
        have HA:=hid (HNO.out htb)
        clear hev HNX HNO htb
        go_wp2
        go_ret
        obtain ⟨n,rfl⟩:=hwr.out
        exact ⟨by rw [HA.out]; rfl,by rw [World.drewN_drewN]; exact B1.out.trans ((Aan w1 _).mono B1.out.size)⟩
    · obtain rfl : i = 4:=by omega
      obtain ⟨n,rfl⟩:=hwr.out
      have HE:=hid (B1.out.trans ((Aan w1 n).mono B1.out.size))
      go_wp2
      go_ret
      exact ⟨by rw [hto.out]; rfl,HE.out⟩
 · have hK : FU t.data.toList s = false:=by
     unfold FU
     rw [show t.data.toList.length = t.size by simp,decide_eq_false h1,Bool.false_and]
   rw [hK]
   by_cases h2 : t.size = 0
   · obtain rfl : t = ⟨#[]⟩:=by
       apply ByteArray.ext
       exact Array.eq_empty_of_size_eq_zero h2
     go_enter Tryz.func226,Tryz.ntmps226
     go_wp2
     go_ret
     exact ⟨rfl,Below.refl _ _⟩
   · obtain ⟨hne,hne2⟩:=OW t (by omega)
     have g2 : ((8192 : Int) < (t.size : Int)):=by omega
     go_enter Tryz.func226,Tryz.ntmps226
     go_wp2
     go_ret
     exact ⟨rfl,Below.refl _ _⟩
end
end Go.Proofs.YtnafjlhohbhcoaaGreatDoor

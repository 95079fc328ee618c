/- Parts of the proof. -/
import Derived.Test.YtlkefgngefpkiaaGreatDoorQ19
import Derived.Test.YtlkefgngefpkiaaGreatDoorQ27
namespace Go.Proofs.YtlkefgngefpkiaaGreatDoor
set_option linter.unusedVariables false
section
open Go.RowKit
theorem AbH (s : ByteArray) : s.data.toList.length = s.size:=by simp
theorem YP {M : Nat} (h : M <= 8192) : (Lit.int .i64 (M : Int)).wf = true:=by
 unfold Lit.wf
 simp [IntKind.min,IntKind.max,IntKind.signed,IntKind.bits]
 omega
theorem Aaj (s : ByteArray) : ∀ u ∈ [Value.string s],u.oneCell' = true:=by intro u hu; simp at hu; subst hu; rfl
theorem Xb (W : World) (s : ByteArray) (t : TypeId) : ∀ j u,[Value.string s][j]? = some u -> (W.alloc (.cells #[.string s] t)).cell? ((⟨W.heap.size,0,none⟩ : Addr).add j) = some u:=Fx W (.string s) t
def Ef (l : List Aa) : List ByteArray:=l.map Aa.key
theorem WD {l : List Aa} {i : Nat} (h : i < l.length) : Tl (Ef (l.take (i + 1))) = Tl (Ef (l.take i)) ++ [.string l[i].key]:=by
 rw [List.take_succ_eq_append_getElem h]
 unfold Tl Ef
 rw [List.map_append,List.map_append]
 rfl
end
section
open Go.RowKit
def Dm (l : List Aa) : Nat:=if l = [] then 1 else Io ⟨#[]⟩ l
theorem GJ {l : List Aa} : Dm l = 0 ↔ l ≠ [] /\ Aj l /\ Az l:=by
 unfold Dm
 split
 · rename_i h; simp [h]
 · rename_i h
   rw [Lc]
   exact ⟨fun k => ⟨h,k⟩,fun k => k.2⟩
set_option maxHeartbeats 2000000 in
set_option maxRecDepth 100000 in
theorem Ly {w : World} {a : Option Addr} {c : Nat} {l : List Aa} (h : Ao w (.slice a l.length c) l) :
 Calls Tryz.prog 140 #[.slice a l.length c] w fun e w' => e = .returned (.int .i64 (Dm l : Nat)) /\ Below w.heap.size w w':=by
 have hmax : l.length <= 9223372036854775807:=by have:=h.1; unfold maxLen at this; omega
 by_cases hne : l = []
 · have e1 : Dm l = 1:=by unfold Dm; rw [if_pos hne]
   have hl0 : l.length = 0:=by rw [hne]; rfl
   rw [e1]
   rw [hl0] at *
   go_enter Tryz.func140,Tryz.ntmps140
   go_wp2
   go_ret
   exact ⟨rfl,Below.refl _ _⟩
 have hl1 : 0 < l.length:=List.length_pos_iff.2 hne
 have e1 : Dm l = Io ⟨#[]⟩ l:=by unfold Dm; rw [if_neg hne]
 rw [e1]
 have H:=Lib.hid h
 have hg0 : ((l.length : Int) == 0) = false:=by simp; omega
 clear h e1 hne
 go_enter Tryz.func140,Tryz.ntmps140
 go_wp2
 go_loopw [3,11] (fun sv iv wr => ∃ i : Nat,i <= l.length /\ iv = .int .i64 (i : Int) /\ sv = .string (LD l i) /\ Hid (Io ⟨#[]⟩ l = Mt l i /\ Below w.heap.size w wr))
  (fun _ iv _ => l.length - (intOf iv).toNat)
 case atStart => exact ⟨0,by omega,rfl,rfl,Vv l,Below.refl _ _⟩
 case round =>
  obtain ⟨i,hil,rfl,rfl,HI⟩:=hrel
  by_cases hlt : i < l.length
  · obtain ⟨b,o,rfl,q0,q1,q2⟩:=H.out.in HI.out.2 hlt
    have HC:=Lib.hid (UP hlt)
    have HLN:=Lib.hid (M0 hlt)
    generalize l[i] = X at *
    generalize LD l i = L at *
    obtain ⟨xk,xv,xg⟩:=X
    simp only at q0 q1 q2 HLN HC
    have hlq:=VX xk L
    have hB1:=Lib.hid (HI.out.2.alloc HI.out.2.size (.cells #[.string xk,.string xv,.bool xg] 61))
    have HBI:=Lib.hid HI.out.1
    have hmeas : l.length - (intOf (.int .i64 ((i : Int) + 1))).toNat < l.length - (intOf (.int .i64 (i : Int))).toNat:=by simp [intOf]; omega
    clear HI
    by_cases c1 : AR L xk = false
    · have hE : Io ⟨#[]⟩ l = 1:=by rw [HBI.out,HC.out,if_pos (.inl c1)]
      have HE:=Lib.hid hE
      clear HC HLN hE
      go_wp2
      go_ret
      exact ⟨by rw [HE.out]; rfl,hB1.out⟩
    · have c1 : AR L xk = true:=by simpa using c1
      by_cases c2 : xg = true /\ xv.size ≠ 0
      · have hE : Io ⟨#[]⟩ l = 1:=by rw [HBI.out,HC.out,if_pos (.inr c2)]
        have HE:=Lib.hid hE
        obtain ⟨c2,c3⟩:=c2
        subst c2
        have hve : xv.toList.isEmpty = false:=by
         have : ¬ xv.toList = []:=fun e => c3 (CU.1 e)
         simpa using this
        clear HC HLN hE
        go_wp2
        go_ret
        exact ⟨by rw [HE.out]; rfl,hB1.out⟩
      · have hgv : xg = false \/ xv.toList.isEmpty = true:=by
          cases hxg : xg with
          | false => exact .inl rfl
          | true =>
            refine .inr ?_
            have : xv.size = 0:=by
             rw [hxg] at c2
             simpa using c2
            rw [CU.2 this]; rfl
        by_cases c3 : 64 < xk.size \/ 8192 < xv.size
        · have hE : Io ⟨#[]⟩ l = 2:=by rw [HBI.out,HC.out,if_neg (by simp only [not_or]; exact ⟨by rw [c1]; simp,c2⟩),if_pos c3]
          have HE:=Lib.hid hE
          have hc3 : (64 : Int) < (xk.size : Int) \/ ((¬ (64 : Int) < (xk.size : Int)) /\ (8192 : Int) < (xv.size : Int)):=by omega
          clear HC HLN c2 c3 hE
          rcases hgv with hgv | hgv <;> rcases hc3 with hc3 | ⟨hc3,hc4⟩
          · subst hgv
            go_wp2
            go_ret
            exact ⟨by rw [HE.out]; rfl,hB1.out⟩
          · subst hgv
            go_wp2
            go_ret
            exact ⟨by rw [HE.out]; rfl,hB1.out⟩
          · cases xg
            · go_wp2
              go_ret
              exact ⟨by rw [HE.out]; rfl,hB1.out⟩
            · go_wp2
              go_ret
              exact ⟨by rw [HE.out]; rfl,hB1.out⟩
          · cases xg
            · go_wp2
              go_ret
              exact ⟨by rw [HE.out]; rfl,hB1.out⟩
            · go_wp2
              go_ret
              exact ⟨by rw [HE.out]; rfl,hB1.out⟩
        · have hBN : Hid (Io ⟨#[]⟩ l = Mt l (i + 1)):=by
            show _ = _
            rw [HBI.out,HC.out,if_neg (by simp only [not_or]; exact ⟨by rw [c1]; simp,c2⟩),if_neg c3]
          have hc3 : ¬ (64 : Int) < (xk.size : Int):=by omega
          have hc4 : ¬ (8192 : Int) < (xv.size : Int):=by omega
          clear HC c2 c3
          rcases hgv with hgv | hgv
          · subst hgv
            go_wp2
            go_roundw
            case rel => exact ⟨i + 1,by omega,by go_num,by rw [HLN.out],hBN.out,hB1.out⟩
            case measure => exact hmeas
          · cases xg
            · go_wp2
              go_roundw
              case rel => exact ⟨i + 1,by omega,by go_num,by rw [HLN.out],hBN.out,hB1.out⟩
              case measure => exact hmeas
            · go_wp2
              go_roundw
              case rel => exact ⟨i + 1,by omega,by go_num,by rw [HLN.out],hBN.out,hB1.out⟩
              case measure => exact hmeas
  · obtain rfl : i = l.length:=by omega
    have hb0 : Io ⟨#[]⟩ l = 0:=by rw [HI.out.1,WY]
    have HE:=Lib.hid hb0
    have HB:=Lib.hid HI.out.2
    clear HI hb0
    go_wp2
    go_ret
    exact ⟨by rw [HE.out]; rfl,HB.out⟩
end
end Go.Proofs.YtlkefgngefpkiaaGreatDoor

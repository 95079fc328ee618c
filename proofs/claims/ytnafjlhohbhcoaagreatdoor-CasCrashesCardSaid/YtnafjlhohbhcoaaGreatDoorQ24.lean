/- Parts of the proof. -/
import Derived.Test.YtnafjlhohbhcoaaGreatDoorQ23
import Derived.Test.YtnafjlhohbhcoaaGreatDoorQ06
namespace Go.Proofs.YtnafjlhohbhcoaaGreatDoor
set_option linter.unusedVariables false
section
open Go.RowKit
theorem IN {w : World} {base : Nat} {v : Value} {fs : List (List UInt8)} (h : w.ownsRow base 9 1 v fs.length (fs.map tx)) {i : Nat} (hi : i < fs.length) : ∃ g cap,v = .slice (some ⟨g,0,none⟩) fs.length cap /\ w.cell? ⟨g,i,none⟩ = some (tx (fs.getD i [])):=by
 rcases h.2 with ⟨_,h0⟩ | ⟨g,cap,cur,rfl,_⟩
 · omega
 · refine ⟨g,cap,rfl,(h.cellAt i (by omega)).trans ?_⟩
   simp [List.getD,hi]
theorem Zg {nb : Nat} (h : nb <= 1099511627776) : (∀ m : Int,m = (nb : Int) -> wrap64 m = (nb : Int)) /\ (∀ m : Int,m = (nb : Int) -> IntKind.i64.wrap m = (nb : Int)) /\ (∀ m : Int,m = (nb : Int) + 1 - 1 -> wrap64 m = (nb : Int)) /\ (∀ m : Int,m = (nb : Int) + 1 - 1 -> IntKind.i64.wrap m = (nb : Int)):=by
 refine ⟨?_,?_,?_,?_⟩
 · rintro m rfl; exact IntWalk.wrap64_in _ (by omega)
 · rintro m rfl; rw [IntKind.wrap_i64]; omega
 · rintro m rfl; rw [IntWalk.wrap64_in _ (by omega)]; omega
 · rintro m rfl; rw [IntKind.wrap_i64]; omega
end
section
open Go.RowKit Go.Maps Go.WideMaps Go.Shelf
theorem Ow {l : List Aa} (hf : Az l) (hl : l.length <= 65536) : (CX l (BM l)).length <= 1048576:=by
 have h1:=Iq hf (Ao l.length)
 have h2 : (BM l).length = min (l.length + 8) 8192:=by unfold BM; rw [Fi]
 have h3 : Ao l.length <= 8192:=by unfold Ao; omega
 have e1:=Av (AK (n:=Ao l.length) (by omega))
 have e2:=Av (AK (n:=l.length) (by omega))
 have e3:=Av (AK (n:=(BM l).length) (by omega))
 unfold CX
 simp only [List.length_append]
 omega
theorem UQ {l : List Aa} (hne : l ≠ []) (hr : Ak l) (hf : Az l) : Er l = if 1048576 < (CX l (BM l)).length then 2 else 0:=by
 unfold Er
 rw [if_neg hne,if_neg (by rw [(K9 l).2 ⟨hr,hf⟩]; simp)]
end
end Go.Proofs.YtnafjlhohbhcoaaGreatDoor

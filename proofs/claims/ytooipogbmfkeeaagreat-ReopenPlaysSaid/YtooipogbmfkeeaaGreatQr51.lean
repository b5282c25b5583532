/-
  Parts of what the laws of this seat stand on:RoOpen.
-/
import Derived.Test.YtooipogbmfkeeaaGreatQr1
import Derived.ChangeSame
import Derived.Lib.SmallJoins
import Derived.Test.YtooipogbmfkeeaaGreatQr18
import Derived.Test.YtooipogbmfkeeaaGreatQr46
set_option maxRecDepth 100000
set_option maxHeartbeats 6400000
namespace Go.Proofs.YtooipogbmfkeeaaGreat
namespace Ro
open Go.RowKit Go.ChangeShapes Go.WideShapes Go.Deep Go.Joins Dsk Trm
theorem u16_wf14 {n:Int} (h:(Lit.int .u16 n).wf=true):0<=n/\n<=65535:=by
 simpa [Lit.wf,IntKind.min,IntKind.max,IntKind.signed,IntKind.bits] using h
section
variable {H:Type} {enc:TypeId×Value->H} {w:World} {base:Nat} {spare:Nat->Bool} {held:Bool}
theorem open_past {r:Reach} {b0:Nat} {v:Value} {d:DataW H} {p:List MemPlace}
 (hv:Value.okWide Tryz.prog w r b0 39 v) (h:DataW.Trod enc Tryz.prog w base spare held 39 v d p):∃x:Pst,v=x.val/\x.Ok w:=by
 have hC:Tryz.prog.cellsOf 39=8:=by kernel_rfl
 have hS:Tryz.prog.cellsOf 35=1:=by kernel_rfl
 have hI:Tryz.prog.cellsOf 36=1:=by kernel_rfl
 have hU:Tryz.prog.cellsOf 5=1:=by kernel_rfl
 have hV:Tryz.prog.cellsOf 37=1:=by kernel_rfl
 have hB:Tryz.prog.cellsOf 4=1:=by kernel_rfl
 obtain ⟨cs,rfl,hsz⟩:=okWide_struct Tryz.underlying39 hv;obtain ⟨l⟩:=cs
 match l,hsz.trans hC with
 | [c0,c1,c2,c3,c4,c5,c6,c7],_=>
  obtain ⟨fuel,hf⟩:=h;obtain ⟨xs,n,_,_,_,hlen,hfs⟩:=DataW.trod_struct Tryz.underlying39 hf
  match xs,hlen with
  | [y0,y1,y2,y3,y4,y5,y6,y7],_=>
   have h0:=hfs 0 _ rfl;have h1:=hfs 1 _ rfl;have h2:=hfs 2 _ rfl;have h3:=hfs 3 _ rfl;have h4:=hfs 4 _ rfl;have h5:=hfs 5 _ rfl;have h6:=hfs 6 _ rfl;have h7:=hfs 7 _ rfl;clear hfs
   simp [Value.cells,hS,hI,hU,hV,hB] at h0 h1 h2 h3 h4 h5 h6 h7
   obtain ⟨rq,hq,_,wq⟩:=DataW.trod_int Tryz.underlying5 h0;obtain ⟨pa,pn,pc,ps,hpc,hps⟩:=open_paC h1;obtain ⟨ka,kn,kc,ks,hkc,hks⟩:=zjT h2;obtain ⟨rf,hfi,_,wf⟩:=DataW.trod_int Tryz.underlying5 h3;obtain ⟨ra,ha,_,wa⟩:=DataW.trod_int Tryz.underlying37 h4;obtain ⟨rt,ht,_,wt⟩:=DataW.trod_int Tryz.underlying5 h5;obtain ⟨ru,hu,_,wu⟩:=DataW.trod_int Tryz.underlying5 h6;obtain ⟨rb,hb,_⟩:=DataW.trod_bool Tryz.underlying4 h7;simp at hq hpc hkc hfi ha ht hu hb;subst hq hpc hkc hfi ha ht hu hb;exact ⟨⟨rq,pa,pn,pc,ps,ka,kn,kc,ks,rf,ra,rt,ru,rb⟩,rfl,⟨zfw wq,hps,hks,zfw wf,u16_wf14 wa,zfw wt,zfw wu⟩⟩
end
end Ro
end Go.Proofs.YtooipogbmfkeeaaGreat

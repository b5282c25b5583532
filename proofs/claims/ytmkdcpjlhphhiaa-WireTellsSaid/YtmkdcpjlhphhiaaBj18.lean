/-
  Parts of what the laws of this seat stand on:WirOpen.
-/
import Derived.Test.YtmkdcpjlhphhiaaBj1
import Derived.ChangeSame
import Derived.Lib.SmallJoins
import Derived.Test.YtmkdcpjlhphhiaaBj4
import Derived.Test.YtmkdcpjlhphhiaaBj5
set_option maxRecDepth 100000
set_option maxHeartbeats 6400000
namespace Go.Proofs.Ytmkdcpjlhphhiaa
namespace Wr
open Go.RowKit Go.ChangeShapes Go.WideShapes Go.Deep Go.Joins Qm Wq Mfs
theorem zaF {n:Int} (h:(Lit.int .i64 n).wf=true): -9223372036854775808<=n/\n<=9223372036854775807:=by
 simpa [Lit.wf,IntKind.min,IntKind.max,IntKind.signed,IntKind.bits] using h
theorem u32_wf16 {n:Int} (h:(Lit.int .u32 n).wf=true):0<=n/\n<=4294967295:=by
 simpa [Lit.wf,IntKind.min,IntKind.max,IntKind.signed,IntKind.bits] using h
structure Mg where
 a:Option Addr
 n:Nat
 c:Nat
 m:Ms
section
variable {H:Type} {enc:TypeId×Value->H} {w:World} {base:Nat} {spare:Nat->Bool} {held:Bool}
theorem zeO {n:Nat} {cs:List Value} {y:DataW H×List MemPlace} (h:DataW.trod enc Try.prog w base spare held n 23 cs=some y):∃a l c rs,cs=[.slice a l c]/\zae w (.slice a l c) rs:=by
 rcases open_slice Try.underlying23 h with ⟨hc,_⟩ | ⟨x,l,c,m,n',D,Pl,hc,_,_,_,_,_,_⟩
 · exact ⟨none,0,0,[],by simpa using hc,zae.nil w none 0⟩
 · have e:cs=[.slice (some x) l c]:=by simpa using hc
   subst e
   obtain ⟨rs,hr⟩:=zfu (a:=some x) (len:=l) (cap:=c) (d:=y.1) (p:=y.2) ⟨n,h⟩;exact ⟨some x,l,c,rs,rfl,hr⟩
theorem open_msg {r:Reach} {b0:Nat} {v:Value} {d:DataW H} {p:List MemPlace}
 (hv:Value.okWide Try.prog w r b0 25 v) (h:DataW.Trod enc Try.prog w base spare held 25 v d p):∃x:Mg,v=zag (.slice x.a x.n x.c) x.m/\(zae w (.slice x.a x.n x.c) x.m.l/\MsB x.m):=by
 have hC:Try.prog.cellsOf 25=15:=by kernel_rfl
 have hI:Try.prog.cellsOf 3=1:=by kernel_rfl
 have hU:Try.prog.cellsOf 22=1:=by kernel_rfl
 have hS:Try.prog.cellsOf 9=1:=by kernel_rfl
 have hR:Try.prog.cellsOf 23=1:=by kernel_rfl
 obtain ⟨cs,rfl,hsz⟩:=okWide_struct Try.underlying25 hv;obtain ⟨l⟩:=cs
 match l,hsz.trans hC with
 | [c0,c1,c2,c3,c4,c5,c6,c7,c8,c9,c10,c11,c12,c13,c14],_=>
  obtain ⟨fuel,hf⟩:=h;obtain ⟨xs,n,_,_,_,hlen,hfs⟩:=DataW.trod_struct Try.underlying25 hf
  match xs,hlen with
  | [y0,y1,y2,y3,y4,y5,y6,y7,y8,y9,y10,y11,y12,y13,y14],_=>
   have h0:=hfs 0 _ rfl;have h1:=hfs 1 _ rfl;have h2:=hfs 2 _ rfl;have h3:=hfs 3 _ rfl;have h4:=hfs 4 _ rfl;have h5:=hfs 5 _ rfl;have h6:=hfs 6 _ rfl;have h7:=hfs 7 _ rfl;have h8:=hfs 8 _ rfl;have h9:=hfs 9 _ rfl;have h10:=hfs 10 _ rfl;have h11:=hfs 11 _ rfl;have h12:=hfs 12 _ rfl;have h13:=hfs 13 _ rfl;have h14:=hfs 14 _ rfl;clear hfs
   simp [Value.cells,hI,hU,hS,hR] at h0 h1 h2 h3 h4 h5 h6 h7 h8 h9 h10 h11 h12 h13 h14
   obtain ⟨r0,e0,_,w0⟩:=DataW.trod_int Try.underlying3 h0;obtain ⟨r1,e1,_,w1⟩:=DataW.trod_int Try.underlying3 h1;obtain ⟨r2,e2,_,w2⟩:=DataW.trod_int Try.underlying3 h2;obtain ⟨r3,e3,_,w3⟩:=DataW.trod_int Try.underlying3 h3;obtain ⟨r4,e4,_,w4⟩:=DataW.trod_int Try.underlying3 h4;obtain ⟨r5,e5,_,w5⟩:=DataW.trod_int Try.underlying3 h5;obtain ⟨r6,e6,_,w6⟩:=DataW.trod_int Try.underlying3 h6;obtain ⟨r7,e7,_,w7⟩:=DataW.trod_int Try.underlying3 h7;obtain ⟨r8,e8,_,w8⟩:=DataW.trod_int Try.underlying3 h8;obtain ⟨r9,e9,_,w9⟩:=DataW.trod_int Try.underlying3 h9;obtain ⟨r10,e10,_,w10⟩:=DataW.trod_int Try.underlying3 h10;obtain ⟨r11,e11,_,w11⟩:=DataW.trod_int Try.underlying3 h11;obtain ⟨r12,e12,_,w12⟩:=DataW.trod_int Try.underlying22 h12;obtain ⟨r13,e13,_,w13⟩:=DataW.trod_string Try.underlying9 h13;obtain ⟨ka,kn,kc,ks,e14,hks⟩:=zeO h14;simp at e0 e1 e2 e3 e4 e5 e6 e7 e8 e9 e10 e11 e12 e13 e14;subst e0 e1 e2 e3 e4 e5 e6 e7 e8 e9 e10 e11 e12 e13 e14;unfold maxLen at w13;exact ⟨⟨ka,kn,kc,⟨r0,r1,r2,r3,r4,r5,r6,r7,r8,r9,r10,r11,r12,r13,ks⟩⟩,rfl,hks,zaF w0,zaF w1,zaF w2,zaF w3,zaF w4,zaF w5,zaF w6,zaF w7,zaF w8,zaF w9,zaF w10,zaF w11,by have:=u32_wf16 w12;dsimp only;omega,w13⟩
end
end Wr
end Go.Proofs.Ytmkdcpjlhphhiaa

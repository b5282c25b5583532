/-
  Parts of what the laws of this seat stand on:StoSame,TrmOpen,TrmBox,RoCrd,RoHv.
-/
import Derived.Test.YtooipogbmfkeeaaGreatQr1
import Derived.ChangeSame
import Derived.Deep.DeepCutAuto
import Derived.Deep.Fields
import Derived.Deep.Heap
import Derived.Deep.RegionHeld3
import Derived.Deep.Slices
import Derived.Laws.OwnMore
import Derived.Laws.StructEq
import Derived.Lib.AppendZeros
import Derived.Lib.SmallJoins
import Derived.Test.YtooipogbmfkeeaaGreatQr12
import Derived.Test.YtooipogbmfkeeaaGreatQr13
import Derived.Test.YtooipogbmfkeeaaGreatQr14
import Derived.Test.YtooipogbmfkeeaaGreatQr15
import Derived.Test.YtooipogbmfkeeaaGreatQr16
import Derived.Test.YtooipogbmfkeeaaGreatQr21
import Derived.Test.YtooipogbmfkeeaaGreatQr22
import Derived.Test.YtooipogbmfkeeaaGreatQr23
import Derived.Test.YtooipogbmfkeeaaGreatQr25
import Derived.Test.YtooipogbmfkeeaaGreatQr26
import Derived.Test.YtooipogbmfkeeaaGreatQr27
import Derived.Test.YtooipogbmfkeeaaGreatQr31
import Derived.Test.YtooipogbmfkeeaaGreatQr33
import Derived.Test.YtooipogbmfkeeaaGreatQr35
import Derived.Test.YtooipogbmfkeeaaGreatQr4
import Derived.Test.YtooipogbmfkeeaaGreatQr42
import Derived.Test.YtooipogbmfkeeaaGreatQr43
import Derived.Test.YtooipogbmfkeeaaGreatQr45
import Derived.Test.YtooipogbmfkeeaaGreatQr5
import Derived.Test.YtooipogbmfkeeaaGreatQr7
set_option maxRecDepth 100000
set_option maxHeartbeats 6400000
namespace Go.Proofs.YtooipogbmfkeeaaGreat
namespace Sto
open Go.RowKit So Dsk Rts
theorem zef (f1 g1 f2 g2:Value) (S:St) (w:World) (hf1:IsL FL w f1 S.d.f) (hg1:IsL Rts.SL w g1 S.g) (hf2:IsL FL w f2 S.d.f) (hg2:IsL Rts.SL w g2 S.g):
 Calls Tryz.prog 12 #[zag f1 g1 S,zag f2 g2 S] w fun e w'=>e= .returned (.bool true)/\Below w.heap.size w w':=by
 obtain ⟨fa,fn,fc,rfl⟩:∃a n c,f1= .slice a n c:=by obtain ⟨a,c,h,_⟩:=hf1;exact ⟨a,_,c,h⟩
 obtain ⟨ha,hn,hc,rfl⟩:∃a n c,f2= .slice a n c:=by obtain ⟨a,c,h,_⟩:=hf2;exact ⟨a,_,c,h⟩
 obtain ⟨ga,gn,gc,rfl⟩:∃a n c,g1= .slice a n c:=by obtain ⟨a,c,h,_⟩:=hg1;exact ⟨a,_,c,h⟩
 obtain ⟨ka,kn,kc,rfl⟩:∃a n c,g2= .slice a n c:=by obtain ⟨a,c,h,_⟩:=hg2;exact ⟨a,_,c,h⟩
 obtain rfl:kn=gn:=by rw [hg1.len.1,hg2.len.1]
 have hl:kn<=9223372036854775807:=by have:=hg1.len;unfold maxLen at this;omega
 have DS:=zid fun (W:World) (h1:IsL FL W (.slice fa fn fc) S.d.f) (h2:IsL FL W (.slice ha hn hc) S.d.f)=>zkH (.slice fa fn fc) (.slice ha hn hc) S.d W h1 h2;have F1:=zid hf1;have F2:=zid hf2;have G1:=zid hg1;have G2:=zid hg2;clear hf1 hg1 hf2 hg2;obtain ⟨⟨df,dc,da,dl,dx⟩,sv,sg,sx,ss,sz,sc⟩:=S;unfold zag;unfold zac at DS;dsimp only at*;obtain ⟨g0,g1,gb,gs⟩:=zaR w #[.slice fa fn fc,.int .i64 dc,.bool da,.int .i64 dl,.bool dx,.int .i64 sv,.slice ga kn gc,.int .i64 sx,.int .i64 ss,.int .i64 sz,.int .u32 sc] #[.slice ha hn hc,.int .i64 dc,.bool da,.int .i64 dl,.bool dx,.int .i64 sv,.slice ka kn kc,.int .i64 sx,.int .i64 ss,.int .i64 sz,.int .u32 sc] 30 30;obtain ⟨⟨p0,p1,p2,p3,p4⟩,p5,p6,p7,p8,p9,p10⟩:=zab g0;obtain ⟨⟨q0,q1,q2,q3,q4⟩,q5,q6,q7,q8,q9,q10⟩:=zab g1;have H0:=zid g0;have H1:=zid g1;have GB:=zid gb;clear g0 g1 gb gs
 go_enter Tryz.func12,Tryz.ntmps12
 go_wp2_with fail;generalize World.alloc (World.alloc w _) _=w0 at p0 p1 p2 p3 p4 p5 p6 p7 p8 p9 p10 q0 q1 q2 q3 q4 q5 q6 q7 q8 q9 q10 H0 H1 GB ⊢;refine (DS.out w0 (F1.out.keep GB.out) (F2.out.keep GB.out)).mono ?_;rintro e w1 ⟨rfl,b1⟩;clear p0 p1 p2 p3 p4 p5 p6 p7 p8 p9 p10 q0 q1 q2 q3 q4 q5 q6 q7 q8 q9 q10;obtain ⟨⟨p0,p1,p2,p3,p4⟩,p5,p6,p7,p8,p9,p10⟩:=zab (hkeep H0.out b1);obtain ⟨⟨q0,q1,q2,q3,q4⟩,q5,q6,q7,q8,q9,q10⟩:=zab (hkeep H1.out b1);have GB1:=zid (GB.out.trans (b1.mono GB.out.size));clear b1;go_wp2_with fail
 go_loopw [5] (fun i wr=>∃k n:Nat,k<=kn/\i= .int .i64 k/\wr=w1.drewN n) (fun i _=>kn-(intOf i).toNat)
 case atStart=>exact ⟨0,0,Nat.zero_le _,rfl,rfl⟩
 case round=>
  obtain ⟨k,n,hk,rfl,rfl⟩:=hrel
  by_cases hlt:k<kn
  · obtain ⟨b,off,rfl,c0,c1,c2⟩:=zck (G1.out.keep GB1.out) hlt
    obtain ⟨b',off',rfl,d0,d1,d2⟩:=zck (G2.out.keep GB1.out) hlt
    generalize sg.getD k Rt.zero=f at*;go_wp2_with fail
    go_quiet (fail)
    go_wp2_with fail
    go_roundw
    case rel=>exact ⟨k+1,_,by omega,by go_num,rfl⟩
    case measure=>simp [intOf];omega
  · go_wp2_with fail
    go_ret
    exact ⟨rfl,GB1.out.trans ((zad n).mono GB1.out.size)⟩
end Sto
namespace Trm
open Go.RowKit Go.ChangeShapes Go.WideShapes Go.Deep Go.Joins Dsk
theorem zfU {n:Int} (h:(Lit.int .i64 n).wf=true): -9223372036854775808<=n/\n<=9223372036854775807:=by
 simpa [Lit.wf,IntKind.min,IntKind.max,IntKind.signed,IntKind.bits] using h
theorem zfw {n:Int} (h:(Lit.int .u8 n).wf=true):0<=n/\n<=255:=by
 simpa [Lit.wf,IntKind.min,IntKind.max,IntKind.signed,IntKind.bits] using h
theorem isL_of13 {α:Type} {Y:Lay α} {w:World} {b off cap:Nat} {l:List α} (hm:l.length<=maxLen) (hcap:l.length<=cap) (hok:∀x∈l,Y.ok x)
 (hc:∀i,i<l.length->∀r u,(Y.enc (l.getD i Y.z))[r]?=some u->w.cell? ⟨b,off+(i*Y.k+r),none⟩=some u):IsL Y w (.slice (some ⟨b,off,none⟩) l.length cap) l:=by
 refine ⟨_,cap,rfl,⟨hm,hcap⟩,hok,.inr ⟨b,off,rfl,fun j u hj=>?_⟩⟩;have hlt:=(List.getElem?_eq_some_iff.1 hj).1;rw [Y.vals_len] at hlt;have hk:=Y.pos;have h1:j/Y.k<l.length:=Nat.div_lt_of_lt_mul (by rw [Nat.mul_comm];exact hlt);have h2:j%Y.k<Y.k:=Nat.mod_lt _ hk
 have e:j=j/Y.k*Y.k+j%Y.k:=by rw [Nat.mul_comm];exact (Nat.div_add_mod j Y.k).symm
 have h3:=Y.vals_get l (j/Y.k) (j%Y.k) h1 h2;rw [<-e,hj] at h3;have:=hc (j/Y.k) h1 (j%Y.k) u h3.symm
 rwa [<-e] at this
section
variable {H:Type} {enc:TypeId×Value->H} {w:World} {base:Nat} {spare:Nat->Bool} {held:Bool}
theorem open_paC {n:Nat} {cs:List Value} {y:DataW H×List MemPlace} (h:DataW.trod enc Tryz.prog w base spare held n 35 cs=some y):∃a l c ms,cs=[.slice a l c]/\IsL PaL w (.slice a l c) ms:=by
 rcases open_slice Tryz.underlying35 h with ⟨hc,_⟩ | ⟨x,len,cap,m,n,D,Pl,hc,_,hl,hm,hmm,_,hi⟩
 · exact ⟨none,0,0,[],hc,IsL.nil w none 0⟩
 · refine ⟨some x,len,cap,?_⟩
   have hlm:len<=m:=by rw [hmm];split<;>omega
   have hC:Tryz.prog.cellsOf 113=4:=by kernel_rfl
   have hO:Tryz.prog.cellsOf 3=1:=by kernel_rfl
   have hS:Tryz.prog.cellsOf 9=1:=by kernel_rfl
   rw [hC] at hi
   have key:∀i,i<len->∃r:Lg.Pa,PaB r/\∀j u,(zfN r)[j]?=some u->w.cell? ((x.add (i*4)).add j)=some u:=by
    intro i hil;obtain ⟨cs',hcs,ht⟩:=hi i (by omega);obtain ⟨_,hlen,hat⟩:=World.cells?_some hcs
    obtain ⟨c0,c1,c2,c3,rfl⟩:∃c0 c1 c2 c3,cs'=[c0,c1,c2,c3]:=by
     match cs',hlen with
     | [c0,c1,c2,c3],_=>exact ⟨c0,c1,c2,c3,rfl⟩
    obtain ⟨y0,y1,y2,y3,n',_,_,h0,h1,h2,h3⟩:=trod_struct4 Tryz.underlying113 ht;obtain ⟨rb,hb,_,wb⟩:=DataW.trod_int Tryz.underlying3 h0;obtain ⟨rn,hn,_,wn⟩:=DataW.trod_int Tryz.underlying3 h1;obtain ⟨rm,hm',_,wm⟩:=DataW.trod_int Tryz.underlying3 h2;obtain ⟨rz,hz,_,wz⟩:=DataW.trod_string Tryz.underlying9 h3
    simp [hO,hS] at hb hn hm' hz
    subst hb hn hm' hz;unfold maxLen at wz;refine ⟨⟨rb,rn,rm,rz⟩,⟨zfU wb,zfU wn,zfU wm,wz⟩,fun j u hj=>?_⟩;have hjl:j<4:=(List.getElem?_eq_some_iff.1 hj).1;have:=hat j hjl;exact this.trans hj
   obtain ⟨f,hf'⟩:∃f:Nat->Lg.Pa,∀i,i<len->PaB (f i)/\∀j u,(zfN (f i))[j]?=some u->w.cell? ((x.add (i*4)).add j)=some u:=by
    refine ⟨fun i=>if h:i<len then Classical.choose (key i h) else paz,fun i h=>?_⟩;simp only [dif_pos h];exact Classical.choose_spec (key i h)
   have hlen:((List.range len).map f).length=len:=by simp
   have hall:∀r∈(List.range len).map f,PaB r:=fun r hr=>by
    rw [List.mem_map] at hr;obtain ⟨i,hi',rfl⟩:=hr;exact (hf' i (by simpa using hi')).1
   refine ⟨(List.range len).map f,hc,?_⟩
   by_cases h0:len=0
   · subst h0
     exact IsL.nil w _ cap
   · obtain ⟨b,off,spot⟩:=x
     have h1:=(hf' 0 (by omega)).2 0 _ rfl
     rw [Nat.zero_mul] at h1
     have hspot:spot=none:=by simpa [Addr.add] using World.cell?_spot h1
     subst hspot
     have:=isL_of13 (Y:=PaL) (w:=w) (b:=b) (off:=off) (cap:=cap) (l:=(List.range len).map f) (by rw [hlen];omega) (by rw [hlen];exact hl) hall (fun i hi' r u hu=>by
      rw [hlen] at hi'
      have e:((List.range len).map f).getD i PaL.z=f i:=by simp [List.getD_eq_getElem?_getD,hi']
      rw [e] at hu;have:=(hf' i hi').2 r u hu;rw [zak,zak] at this;rw [<-Nat.add_assoc]
      exact this)
     rw [hlen] at this;exact this
end
end Trm
namespace Trm
open Go.RowKit So Dsk Rts Sto
section
variable {w0 W:World}
end
theorem play_g {q:Int} {l:List Lg.Pa} (hq:0<q) (hl:∀a∈l,PaB a) (hn:l.length<=40):G13 q 40 40 (Lg.playL q l l.length):=
 (G13.acts hq l (fun a ha=>(hl a ha).2.1.2) l.length hn).more hn hn
section
variable {w0 W W':World} {h t x:Nat} {n0 n1:Int} {v1 u1 v2 u2:Value} {S X:St}
end
end Trm
namespace Ro
open Go.RowKit So Dsk Rts Sto Trm
structure Pst where
 q:Int
 pa:Option Addr
 pn:Nat
 pc:Nat
 l:List Lg.Pa
 ka:Option Addr
 kn:Nat
 kc:Nat
 ks:List Int
 fi:Int
 ps:Int
 tu:Int
 fu:Int
 fd:Bool
def Pst.val (g:Pst):Value:= .agg #[.int .u8 g.q,.slice g.pa g.pn g.pc,.slice g.ka g.kn g.kc,.int .u8 g.fi,.int .u16 g.ps,.int .u8 g.tu,.int .u8 g.fu,.bool g.fd]
structure Pst.Ok (w:World) (g:Pst):Prop where
 q:0<=g.q/\g.q<=255
 l:IsL PaL w (.slice g.pa g.pn g.pc) g.l
 ks:IsL KL w (.slice g.ka g.kn g.kc) g.ks
 fi:0<=g.fi/\g.fi<=255
 ps:0<=g.ps/\g.ps<=65535
 tu:0<=g.tu/\g.tu<=255
 fu:0<=g.fu/\g.fu<=255
theorem Pst.Ok.keep {w w':World} {g:Pst} (h:g.Ok w) (b:Below w.heap.size w w'):g.Ok w':=⟨h.q,h.l.keep b,h.ks.keep b,h.fi,h.ps,h.tu,h.fu⟩
theorem zcO {W:World} {k:Nat} {T:TypeId} {a b c d e f g h:Value} (hh:W.heap[k]?=some (.cells #[a,b,c,d,e,f,g,h] T (0,0))):
 W.cell? ⟨k,0,none⟩=some a/\W.cell? ⟨k,1,none⟩=some b/\W.cell? ⟨k,2,none⟩=some c/\W.cell? ⟨k,3,none⟩=some d/\W.cell? ⟨k,4,none⟩=some e/\W.cell? ⟨k,5,none⟩=some f/\W.cell? ⟨k,6,none⟩=some g/\W.cell? ⟨k,7,none⟩=some h:=
 ⟨by rw [Lib.cell_of_heap hh];rfl,by rw [Lib.cell_of_heap hh];rfl,by rw [Lib.cell_of_heap hh];rfl,by rw [Lib.cell_of_heap hh];rfl,by rw [Lib.cell_of_heap hh];rfl,by rw [Lib.cell_of_heap hh];rfl,by rw [Lib.cell_of_heap hh];rfl,by rw [Lib.cell_of_heap hh];rfl⟩
def zjj (w:World) (g:Pst) (e:Ending) (w':World):Prop:=
 ∃a n c a' n' c' S b m d D ok,e= .returned (.tuple #[zag (.slice a n c) (.slice a' n' c') S,zac (.slice b m d) D,.bool ok])/\Below w.heap.size w w'/\
  (ok=true->(G13 (20+g.q) 40 40 S/\S=Lg.playL (20+g.q) g.l g.l.length/\g.l.length<=40/\g.ks.length<=300)/\D=Dp.crash S.d g.ks/\IsL FL w' (.slice a n c) S.d.f/\IsL Rts.SL w' (.slice a' n' c') S.g/\IsL FL w' (.slice b m d) D.f)
theorem zcH (g:Pst) (w:World) (hg:g.Ok w):Calls Tryz.prog 13 #[g.val] w (zjj w g):=by
 have hq:=hg.q;have PL:=zid fun (W:World) (hW:IsL PaL W (.slice g.pa g.pn g.pc) g.l)=>zjP (20+g.q) g.pa g.pn g.pc g.l W (by omega) hW;have HG:=zid hg;have hkl:=hg.ks.len.1;have hkm:=hg.ks.len.2;unfold maxLen at hkm;have hw20:IntKind.i64.wrap (20+g.q)=20+g.q:=IntWalk.i64_in _ ⟨by omega,by omega⟩;have hwq:IntKind.i64.wrap g.q=g.q:=IntWalk.i64_in _ ⟨by omega,by omega⟩;have M0:=zid ((((Sto.Ms.start (w:=w) (fv:= .slice none 0 0) (gv:= .slice none 0 0) (lf:=[]) (lg:=[]) (IsL.nil w none 0) (IsL.nil w none 0)).alloc #[.int .u8 g.q,.slice g.pa g.pn g.pc,.slice g.ka g.kn g.kc,.int .u8 g.fi,.int .u16 g.ps,.int .u8 g.tu,.int .u8 g.fu,.bool g.fd] 39).alloc #[.slice none 0 0,.int .i64 0,.bool false,.int .i64 0,.bool false,.int .i64 0,.slice none 0 0,.int .i64 0,.int .i64 0,.int .i64 0,.int .u32 0] 30).alloc #[.slice none 0 0,.int .i64 0,.bool false,.int .i64 0,.bool false] 24);clear hg;unfold Pst.val;obtain ⟨q,pa,pn,pc,l,ka,kn,kc,kl,fi,ps,tu,fu,fd⟩:=g;dsimp only at*;subst hkl
 go_enter Tryz.func13,Tryz.ntmps13
 go_upto_region 1 with (fail);rw [World.size_alloc,World.size_alloc] at M0;generalize World.alloc (World.alloc (World.alloc w _) _) _=w0 at M0 ⊢;obtain ⟨p0,p1,p2,_,_,_,_,_⟩:=zcO (M0.out.at_ (t:=w.heap.size) (mcm (mcm mcs)));go_wp2_with fail;refine (PL.out _ (HG.out.l.keep M0.out.w)).mono ?_;rintro e w1 ⟨a1,n1,c1,a2,n2,c2,S,b,rfl,bel,hb,_⟩;clear p0 p1 p2 PL
 cases b with
 | false=>
  have M1:=zid ((M0.out.keep bel).alloc #[.slice a1 n1 c1,.int .i64 S.d.c,.bool S.d.a,.int .i64 S.d.l,.bool S.d.x,.int .i64 S.v,.slice a2 n2 c2,.int .i64 S.x,.int .i64 S.s,.int .i64 S.z,.int .u32 S.c] 30);clear bel hb M0;unfold zag;dsimp only;go_upto_region 3 with (fail);generalize w1.alloc _=w2 at M1 ⊢;generalize w1.heap.size=t3 at M1 ⊢;obtain ⟨⟨k0,k1,k2,k3,k4⟩,k5,k6,k7,k8,k9,k10⟩:=zab (M1.out.at_ (t:=t3) mcs);obtain ⟨⟨y0,y1,y2,y3,y4⟩,y5,y6,y7,y8,y9,y10⟩:=zab (M1.out.at_ (t:=w.heap.size+1) (mcm (mcm mcs)));obtain ⟨z0,z1,z2,z3,z4⟩:=zaa (M1.out.at_ (t:=w.heap.size+1+1) (mcm mcs));have yf:=zah (M1.out.at_ (t:=w.heap.size+1) (mcm (mcm mcs)));have zf:=zah (M1.out.at_ (t:=w.heap.size+1+1) (mcm mcs));go_wp2_with fail
  obtain ⟨Z1,hZ1,mZ1⟩:=M1.out.lay11 (t:=w.heap.size+1) (cs':=[(w.heap.size+1,sC (.slice a1 n1 c1) (.slice a2 n2 c2) S),(w.heap.size+1+1,.cells #[.slice none 0 0,.int .i64 0,.bool false,.int .i64 0,.bool false] 24)]) (mcm (mcm mcs)) (.slice a1 n1 c1) (.int .i64 S.d.c) (.bool S.d.a) (.int .i64 S.d.l) (.bool S.d.x) (.int .i64 S.v) (.slice a2 n2 c2) (.int .i64 S.x) (.int .i64 S.s) (.int .i64 S.z) (.int .u32 S.c) (fun p hp=>by
   simp only [List.mem_cons,List.not_mem_nil,or_false] at hp
   rcases hp with rfl | rfl
   · exact .inl rfl
   · exact .inr ⟨(mcm mcs),by show w.heap.size+1+1≠w.heap.size+1;omega⟩)
  obtain ⟨Z2,hZ2,mZ2⟩:=mZ1.lay5 (t:=w.heap.size+1+1) (cs':=[(w.heap.size+1,sC (.slice a1 n1 c1) (.slice a2 n2 c2) S),(w.heap.size+1+1,.cells #[.slice none 0 0,.int .i64 0,.bool false,.int .i64 0,.bool false] 24)]) (mcm mcs) (.slice none 0 0) (.int .i64 0) (.bool false) (.int .i64 0) (.bool false) (fun p hp=>by
   simp only [List.mem_cons,List.not_mem_nil,or_false] at hp
   rcases hp with rfl | rfl
   · exact .inr ⟨mcs,by show w.heap.size+1≠w.heap.size+1+1;omega⟩
   · exact .inl rfl)
  rw [hZ1,hZ2];obtain ⟨⟨x0,x1,x2,x3,x4⟩,x5,x6,x7,x8,x9,x10⟩:=zab (mZ2.at_ (t:=w.heap.size+1) mcs);obtain ⟨u0,u1,u2,u3,u4⟩:=zaa (mZ2.at_ (t:=w.heap.size+1+1) (mcm mcs));refine bodyPost_ret (v:= .tuple #[zag (.slice a1 n1 c1) (.slice a2 n2 c2) S,zac (.slice none 0 0) Dp.empty,.bool false]) (by unfold zag zac Dp.empty;simp [results,Tryz.results13,go_sem,x0,x1,x2,x3,x4,x5,x6,x7,x8,x9,x10,u0,u1,u2,u3,u4]) rfl ?_;unfold zjj;exact ⟨a1,n1,c1,a2,n2,c2,S,none,0,0,Dp.empty,false,rfl,mZ2.w,fun h=>(by cases h)⟩
 | true=>
  obtain ⟨hl40,hSe,ks⟩:=hb rfl;have G:=play_g (q:=20+q) (by omega) HG.out.l.ok hl40;rw [<-hSe] at G;have HF:=zid (And.intro G (And.intro hSe hl40));have M1:=zid ((M0.out.call2 mcs mcs ks).alloc #[.slice a1 n1 c1,.int .i64 S.d.c,.bool S.d.a,.int .i64 S.d.l,.bool S.d.x,.int .i64 S.v,.slice a2 n2 c2,.int .i64 S.x,.int .i64 S.s,.int .i64 S.z,.int .u32 S.c] 30);have CR:=fun (a:Option Addr) (n c:Nat) (kv:Value) (ks:List Int) (W:World) (h:IsL FL W (.slice a n c) S.d.f) (hk:IsL KL W kv ks)=>zd6 G.d (by decide) h hk;clear bel hb M0 ks G hSe hl40;unfold zac Dp.crash at CR;dsimp only at CR;replace CR:=zid CR;unfold zag;dsimp only;go_upto_region 2 with (fail);generalize w1.alloc _=w2 at M1 ⊢;generalize w1.heap.size=t3 at M1 ⊢;obtain ⟨⟨k0,k1,k2,k3,k4⟩,k5,k6,k7,k8,k9,k10⟩:=zab (M1.out.at_ (t:=t3) mcs);obtain ⟨⟨y0,y1,y2,y3,y4⟩,y5,y6,y7,y8,y9,y10⟩:=zab (M1.out.at_ (t:=w.heap.size+1) (mcm (mcm mcs)));obtain ⟨z0,z1,z2,z3,z4⟩:=zaa (M1.out.at_ (t:=w.heap.size+1+1) (mcm mcs));obtain ⟨p0,p1,p2,_,_,_,_,_⟩:=zcO (M1.out.at_ (t:=w.heap.size) (mcm (mcm (mcm mcs))));have yf:=zah (M1.out.at_ (t:=w.heap.size+1) (mcm (mcm mcs)));have zf:=zah (M1.out.at_ (t:=w.heap.size+1+1) (mcm mcs))
  by_cases hk:kl.length<=300
  · go_upto_region 4 with (fail)
    have F1:=zid (M1.out.fl (v:= .slice a1 n1 c1) (l:=S.d.f) mcs)
    have F1d:=zid (F1.out.keep (Below.refl _ _).drew);have K1:=zid (HG.out.ks.keep M1.out.w);have K1d:=zid (K1.out.keep (Below.refl _ _).drew)
    go_region_with ((go_at_call 19;(first | refine (CR.out _ _ _ _ _ _ F1d.out K1d.out).mono ?_ | refine (CR.out _ _ _ _ _ _ F1.out K1.out).mono ?_);rintro e w5 ⟨a5,n5,c5,rfl,hi,hsep,b5⟩;have B5:=zid (show Below w2.heap.size w2 w5 from (by first | exact b5 | exact (Below.refl _ w2).drew.trans b5));have M5:=zid (M1.out.call (v:= .slice a1 n1 c1) (l:=S.d.f) mcs (DkS.mk (R:=Dp.crash S.d kl) hi (fun t ht _=>hsep t ht) B5.out));clear hi hsep b5 B5;have k':=zab (M5.out.at_ (t:=t3) mcs);have y':=zab (M5.out.at_ (t:=w.heap.size+1) (mcm (mcm mcs)));have z':=zaa (M5.out.at_ (t:=w.heap.size+1+1) (mcm mcs));have yf':=zah (M5.out.at_ (t:=w.heap.size+1) (mcm (mcm mcs)));have zf':=zah (M5.out.at_ (t:=w.heap.size+1+1) (mcm mcs));obtain ⟨⟨k0',k1',k2',k3',k4'⟩,k5',k6',k7',k8',k9',k10'⟩:=k';obtain ⟨⟨y0',y1',y2',y3',y4'⟩,y5',y6',y7',y8',y9',y10'⟩:=y';obtain ⟨z0',z1',z2',z3',z4'⟩:=z'))
    all_goals
     go_wp2_with fail
     obtain ⟨Z1,hZ1,mZ1⟩:=M5.out.lay11 (t:=w.heap.size+1) (cs':=[(w.heap.size+1,sC (.slice a1 n1 c1) (.slice a2 n2 c2) S),(w.heap.size+1+1,.cells #[.slice none 0 0,.int .i64 0,.bool false,.int .i64 0,.bool false] 24)]) (mcm (mcm mcs)) (.slice a1 n1 c1) (.int .i64 S.d.c) (.bool S.d.a) (.int .i64 S.d.l) (.bool S.d.x) (.int .i64 S.v) (.slice a2 n2 c2) (.int .i64 S.x) (.int .i64 S.s) (.int .i64 S.z) (.int .u32 S.c) (fun p hp=>by
      simp only [List.mem_cons,List.not_mem_nil,or_false] at hp
      rcases hp with rfl | rfl
      · exact .inl rfl
      · exact .inr ⟨(mcm mcs),by show w.heap.size+1+1≠w.heap.size+1;omega⟩)
     obtain ⟨Z2,hZ2,mZ2⟩:=mZ1.lay5 (t:=w.heap.size+1+1) (cs':=[(w.heap.size+1,sC (.slice a1 n1 c1) (.slice a2 n2 c2) S),(w.heap.size+1+1,.cells #[.slice a5 n5 c5,.int .i64 S.d.c,.bool false,.int .i64 0,.bool false] 24)]) (mcm mcs) (.slice a5 n5 c5) (.int .i64 S.d.c) (.bool false) (.int .i64 0) (.bool false) (fun p hp=>by
      simp only [List.mem_cons,List.not_mem_nil,or_false] at hp
      rcases hp with rfl | rfl
      · exact .inr ⟨mcs,by show w.heap.size+1≠w.heap.size+1+1;omega⟩
      · exact .inl rfl)
     rw [hZ1,hZ2];obtain ⟨⟨x0,x1,x2,x3,x4⟩,x5,x6,x7,x8,x9,x10⟩:=zab (mZ2.at_ (t:=w.heap.size+1) mcs);obtain ⟨u0,u1,u2,u3,u4⟩:=zaa (mZ2.at_ (t:=w.heap.size+1+1) (mcm mcs));refine bodyPost_ret (v:= .tuple #[zag (.slice a1 n1 c1) (.slice a2 n2 c2) S,zac (.slice a5 n5 c5) (Dp.crash S.d kl),.bool true]) (by unfold zag zac Dp.crash;simp [results,Tryz.results13,go_sem,x0,x1,x2,x3,x4,x5,x6,x7,x8,x9,x10,u0,u1,u2,u3,u4]) rfl ?_;unfold zjj;exact ⟨a1,n1,c1,a2,n2,c2,S,a5,n5,c5,_,true,rfl,mZ2.w,fun _=>⟨⟨HF.out.1,HF.out.2.1,HF.out.2.2,hk⟩,rfl,mZ2.fl (mcm mcs),mZ2.sl mcs,mZ2.fl mcs⟩⟩
  · go_upto_region 3 with (fail)
    clear p0 p1 p2
    go_wp2_with fail
    obtain ⟨Z1,hZ1,mZ1⟩:=M1.out.lay11 (t:=w.heap.size+1) (cs':=[(w.heap.size+1,sC (.slice a1 n1 c1) (.slice a2 n2 c2) S),(w.heap.size+1+1,.cells #[.slice none 0 0,.int .i64 0,.bool false,.int .i64 0,.bool false] 24)]) (mcm (mcm mcs)) (.slice a1 n1 c1) (.int .i64 S.d.c) (.bool S.d.a) (.int .i64 S.d.l) (.bool S.d.x) (.int .i64 S.v) (.slice a2 n2 c2) (.int .i64 S.x) (.int .i64 S.s) (.int .i64 S.z) (.int .u32 S.c) (fun p hp=>by
     simp only [List.mem_cons,List.not_mem_nil,or_false] at hp
     rcases hp with rfl | rfl
     · exact .inl rfl
     · exact .inr ⟨(mcm mcs),by show w.heap.size+1+1≠w.heap.size+1;omega⟩)
    obtain ⟨Z2,hZ2,mZ2⟩:=mZ1.lay5 (t:=w.heap.size+1+1) (cs':=[(w.heap.size+1,sC (.slice a1 n1 c1) (.slice a2 n2 c2) S),(w.heap.size+1+1,.cells #[.slice none 0 0,.int .i64 0,.bool false,.int .i64 0,.bool false] 24)]) (mcm mcs) (.slice none 0 0) (.int .i64 0) (.bool false) (.int .i64 0) (.bool false) (fun p hp=>by
     simp only [List.mem_cons,List.not_mem_nil,or_false] at hp
     rcases hp with rfl | rfl
     · exact .inr ⟨mcs,by show w.heap.size+1≠w.heap.size+1+1;omega⟩
     · exact .inl rfl)
    rw [hZ1,hZ2];obtain ⟨⟨x0,x1,x2,x3,x4⟩,x5,x6,x7,x8,x9,x10⟩:=zab (mZ2.at_ (t:=w.heap.size+1) mcs);obtain ⟨u0,u1,u2,u3,u4⟩:=zaa (mZ2.at_ (t:=w.heap.size+1+1) (mcm mcs));refine bodyPost_ret (v:= .tuple #[zag (.slice a1 n1 c1) (.slice a2 n2 c2) S,zac (.slice none 0 0) Dp.empty,.bool false]) (by unfold zag zac Dp.empty;simp [results,Tryz.results13,go_sem,x0,x1,x2,x3,x4,x5,x6,x7,x8,x9,x10,u0,u1,u2,u3,u4]) rfl ?_;unfold zjj;exact ⟨a1,n1,c1,a2,n2,c2,S,none,0,0,Dp.empty,false,rfl,mZ2.w,fun h=>(by cases h)⟩
end Ro
namespace Ro
open Go.RowKit So Dsk Sto
structure Hv (w:World) (cs:List (Nat×Obj)) (fs:List (Value×List Dp.Fl)) (gs:List (Value×List Rt.Sg)) (W:World):Prop where
 c:∀p∈cs,W.heap[p.1]?=some p.2
 f:∀p∈fs,IsL FL W p.1 p.2
 g:∀p∈gs,IsL Rts.SL W p.1 p.2
 w:Below w.heap.size w W
section
variable {w W W':World} {cs:List (Nat×Obj)} {fs:List (Value×List Dp.Fl)} {gs:List (Value×List Rt.Sg)}
theorem Hv.start:Hv w [] [] [] w:=⟨fun _ h=>absurd h List.not_mem_nil,fun _ h=>absurd h List.not_mem_nil,fun _ h=>absurd h List.not_mem_nil,Below.refl _ _⟩
theorem Hv.keep (h:Hv w cs fs gs W) (k:Below W.heap.size W W'):Hv w cs fs gs W':=
 ⟨fun p hp=>hkeep (h.c p hp) k,fun p hp=>(h.f p hp).keep k,fun p hp=>(h.g p hp).keep k,h.w.trans (k.mono h.w.size)⟩
theorem Hv.al (h:Hv w cs fs gs W) (A:Array Value) (T:TypeId):Hv w ((W.heap.size,.cells A T)::cs) fs gs (W.alloc (.cells A T)):=by
 have k:=h.keep (zaC W (.cells A T));refine ⟨fun p hp=>?_,k.f,k.g,k.w⟩
 rcases List.mem_cons.1 hp with rfl | hp
 · exact heap_alloc_new W (.cells A T)
 · exact k.c p hp
theorem Hv.addf (h:Hv w cs fs gs W) {v:Value} {l:List Dp.Fl} (hl:IsL FL W v l):Hv w cs ((v,l)::fs) gs W:=
 ⟨h.c,fun p hp=>by
  rcases List.mem_cons.1 hp with rfl | hp
  · exact hl
  · exact h.f p hp,h.g,h.w⟩
theorem Hv.addg (h:Hv w cs fs gs W) {v:Value} {l:List Rt.Sg} (hl:IsL Rts.SL W v l):Hv w cs fs ((v,l)::gs) W:=
 ⟨h.c,h.f,fun p hp=>by
  rcases List.mem_cons.1 hp with rfl | hp
  · exact hl
  · exact h.g p hp,h.w⟩
theorem Hv.st (h:Hv w cs fs gs W) {v u v' u':Value} {T:St} (k:StS W v u T v' u' W'):Hv w cs ((v',T.d.f)::fs) ((u',T.g)::gs) W':=((h.keep k.w).addf k.f).addg k.g
theorem Hv.at_ (h:Hv w cs fs gs W) {t:Nat} {o:Obj} (hm:(t,o)∈cs):W.heap[t]?=some o:=h.c _ hm
theorem Hv.fl (h:Hv w cs fs gs W) {v:Value} {l:List Dp.Fl} (hm:(v,l)∈fs):IsL FL W v l:=h.f _ hm
theorem Hv.sl (h:Hv w cs fs gs W) {v:Value} {l:List Rt.Sg} (hm:(v,l)∈gs):IsL Rts.SL W v l:=h.g _ hm
end
theorem bd_arm {D:Dp.Dk} {k:Nat} (h:Bd D k) {i:Int} (hi:i<=9223372036854775807):Bd (Dp.arm D i) k:=
 ⟨⟨h.b.1,by show (-9223372036854775808:Int)<=max i 0;omega,by show max i 0<=(9223372036854775807:Int);omega⟩,⟨h.r.1,h.r.2.1,h.r.2.2.1,by show (0:Int)<=max i 0;omega⟩,h.n,h.u⟩
end Ro
end Go.Proofs.YtooipogbmfkeeaaGreat

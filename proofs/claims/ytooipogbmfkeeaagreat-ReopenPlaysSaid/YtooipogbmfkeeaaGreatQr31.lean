/-
  Parts of what the laws of this seat stand on:TrmGood,StoAw,TrmG,StoTk,TrmAwp,RoPlain.
-/
import Derived.Test.YtooipogbmfkeeaaGreatQr1
import Derived.Test.YtooipogbmfkeeaaGreatQr19
import Derived.Test.YtooipogbmfkeeaaGreatQr25
import Derived.Test.YtooipogbmfkeeaaGreatQr28
import Derived.Test.YtooipogbmfkeeaaGreatQr29
import Derived.Test.YtooipogbmfkeeaaGreatQr3
import Derived.Test.YtooipogbmfkeeaaGreatQr30
import Derived.Test.YtooipogbmfkeeaaGreatQr5
import Derived.Test.YtooipogbmfkeeaaGreatQr6
set_option maxRecDepth 100000
set_option maxHeartbeats 6400000
namespace Go.Proofs.YtooipogbmfkeeaaGreat
namespace Trm
open Go.RowKit So Dsk Rts Sto
theorem zfs:∀(t:List Rt.Sg) {D:Dp.Dk} {k:Nat},Bd D k->Bd (Lg.delSegs D t).1 (k+t.length)
 | [],_,_,h=>h
 | g::t,D,k,h=>by
  have h1:=zaB h (segN g.b);show Bd (if (Dp.delete D (segN g.b)).2≠0 then Dp.delete D (segN g.b) else Lg.delSegs (Dp.delete D (segN g.b)).1 t).1 _;rw [List.length_cons]
  split
  · exact h1.mono (by omega)
  · exact (zfs t h1).mono (by omega)
theorem bd_trimK {S:St} {p k:Nat} (h:Bd S.d k) (hB:(Lg.trimB S p).length<=3000):Bd (Lg.trimK S p).1.d (k+12+S.g.length):=by
 have hbs:(⟨(Lg.trimB S p).toArray⟩:ByteArray).size<=3000:=by show (Lg.trimB S p).toArray.size<=3000;rw [List.size_toArray];exact hB
 have h1:Bd (Lg.trim1 S p).1 (k+3):=by
  have c:=zaL h (Lg.snapN (Lg.trimF S p));unfold Lg.trim1
  split
  · exact c.mono (by omega)
  · exact zgg (zbH c (Lg.snapN (Lg.trimF S p)) hbs) _ _
 have h2:Bd (Lg.trim2 S p).1 (k+4):=by
  unfold Lg.trim2
  split
  · exact h1.mono (by omega)
  · exact zcf h1 _
 have h3:Bd (Lg.trim3 S p).1 (k+10):=by
  unfold Lg.trim3
  split
  · exact h2.mono (by omega)
  · exact zgg (zdv h2 (man (Lg.trimX S p))) _ _
 have h4:Bd (Lg.trim4 S p (Lg.trim3 S p).1).1 (k+11+S.g.length):=by
  have d:=zfs (S.g.take p) h3
  have l:(S.g.take p).length<=S.g.length:=by rw [List.length_take];omega
  unfold Lg.trim4
  split
  · exact (zaB d _).mono (by omega)
  · exact d.mono (by omega)
 unfold Lg.trimK
 split
 · exact h.mono (by omega)
 split
 · exact h3.mono (by omega)
 · exact h4.mono (by omega)
theorem bd_put {S:St} {k:Nat} (h:Bd S.d k) (r:Rp.Rec):Bd (put S r).1.d (k+1):=by
 have h1:=zbH h (segN (lastG S).b) (s:=⟨(Rp.putB r).toArray⟩) (by rw [zam];have:=Rp.putB_le r;omega);unfold put;dsimp only
 split<;>exact h1
theorem bd_app {S:St} {k:Nat} (hn:S.g≠[]) (h:Bd S.d k) (q:Int) (r:Rp.Rec):Bd (So.append S q r).1.d (k+9):=by
 have hr:=roll_raw hn h;unfold So.append
 split
 · exact h.mono (by omega)
 split
 · exact h.mono (by omega)
 split
 · split
   · exact hr.d.mono (by omega)
   · exact bd_put hr.d _
 · exact (bd_put h _).mono (by omega)
theorem bd_play {q i:Int} {S:St} {a:Lg.Pa} {k:Nat} (hn:S.g≠[]) (h:Bd S.d k) (ha:a.n<=9223372036854775807) (hB:∀p,p<S.g.length->(Lg.trimB S p).length<=3000):Bd (Lg.playA q i S a).d (k+12+S.g.length):=by
 unfold Lg.playA
 split
 · exact (zcf h (segN (lastG S).b)).mono (by omega)
 split
 · unfold Lg.trimT
   exact bd_trimK h (hB _ ((Lg.pickN_is S.g a.n a.m).lt.2 (List.length_pos_iff.2 hn)))
 split
 · have:=zbO h (a:=⟨6,a.n,⟨#[]⟩,⟨#[]⟩,[]⟩) ha (by show (0:Nat)<=3000;omega)
   rw [act6] at this
   exact this.mono (by omega)
 split
 · have:=zbO h (a:=⟨7,a.n,⟨#[]⟩,⟨#[]⟩,[]⟩) ha (by show (0:Nat)<=3000;omega)
   rw [act7] at this
   exact this.mono (by omega)
 · exact (bd_app hn h q _).mono (by omega)
theorem zg1 {q F:Int} {S:St} {s0:List Fp.Pr} {rs:List Rp.Rec} (h:Lg.Log q S F s0 rs) (hn:s0.length+rs.length<=40) {p:Nat} (hp:p<S.g.length):
 fewP (Lg.stateT S (Lg.trimF S p))=true/\(Lg.trimB S p).length<=3000:=by
 obtain ⟨b1,b2,b3⟩:=h.bases;have hm:=b3 (S.g.getD p Rt.zero) (by rw [zao hp];exact List.getElem_mem hp);have hx:=h.x;have hF:Lg.trimF S p=(S.g.getD p Rt.zero).b:=rfl
 have e:Lg.trimF S p=F+(((Lg.trimF S p-F).toNat:Nat):Int):=by omega
 have w:=h.few hn (Nat.le_refl _) (k:=(Lg.trimF S p-F).toNat) (by omega);rw [<-e] at w;exact ⟨w.2.2.1,w.2.2.2⟩
theorem zg9 {D:Dp.Dk} {q:Int}:∀{t:List Rt.Sg} {b:Int} {rs:List Rp.Rec},Lg.Fulls D q t b rs->∀g∈t,(0<=g.n/\g.n<=rs.length)/\(0<=g.z/\g.z<=q+90)
 | g::t,b,rs,⟨h1,l,r,h2,h3,h4,h5,h6,h7,h8,h9⟩,x,hx=>by
  rw [h2,List.length_append]
  rcases List.mem_cons.1 hx with rfl | hx
  · exact ⟨⟨by omega,by omega⟩,⟨by omega,h8⟩⟩
  · have ih:=zg9 h9 x hx
    exact ⟨⟨ih.1.1,by omega⟩,ih.2⟩
theorem zfT {q F:Int} {S:St} {s0:List Fp.Pr} {rs:List Rp.Rec} (h:Lg.Log q S F s0 rs):∀g∈S.g,(0<=g.b/\g.b<=1099511627776)/\(0<=g.n/\g.n<=rs.length)/\(0<=g.z/\g.z<=q+90):=fun g hg=>by
 obtain ⟨b1,b2,b3⟩:=h.bases;have hb:=b3 g hg;have h0:=h.f0;have hx:=h.fx;obtain ⟨t,l,r,e1,e2,e3,e4,e5,e6,e7,e8⟩:=h.seg;refine ⟨⟨by omega,by omega⟩,?_⟩;rw [e1] at hg;rw [e2,List.length_append]
 rcases List.mem_append.1 hg with hg | hg
 · have m:=zg9 e3 g hg
   exact ⟨⟨m.1.1,by omega⟩,m.2⟩
 · rw [List.mem_singleton] at hg
   subst hg
   exact ⟨⟨by omega,by omega⟩,⟨by omega,e8⟩⟩
end Trm
namespace So
open Go.RowKit Dp
theorem zba {D:Dk} (h:Calm D) (l:List Fl) (o:Int):Calm (Dp.change D l o).1:=by
 unfold Dp.change;rw [if_neg (by rw [h.x];decide)]
 split
 · exact h
 · rw [if_neg (by rw [h.a];simp),if_neg (by rw [h.a];decide)]
   exact ⟨h.x,h.a,h.c⟩
theorem zcJ {D:Dk} (h:Calm D) (n:ByteArray):Calm (Dp.create D n).1:=by
 unfold Dp.create
 split
 · exact zba h _ _
 · split<;>exact zba h _ _
theorem zeQ {D:Dk} (h:Calm D) (n s:ByteArray):Calm (Dp.append D n s).1:=by
 unfold Dp.append
 split
 · exact zba h _ _
 · split<;>exact zba h _ _
theorem zhm {D:Dk} (h:Calm D) (n:ByteArray):Calm (Dp.sync D n).1:=by
 unfold Dp.sync
 split<;>exact zba h _ _
theorem zeP {D:Dk} (h:Calm D) (n m:ByteArray):Calm (Dp.rename D n m).1:=by
 unfold Dp.rename
 split
 · exact zba h _ _
 · split<;>exact zba h _ _
theorem zcI {D:Dk} (h:Calm D) (n:ByteArray):Calm (Dp.delete D n).1:=by
 unfold Dp.delete
 split<;>exact zba h _ _
theorem zl7 {D:Dk} (h:Calm D) (m:Qm.Mn):Calm (swap D m).1:=by
 have hs:∀(E:Dk) (s:ByteArray),Calm E->Calm (swapS E s).1:=fun E s hE=>by
  have c1:=zcJ hE nn;have c2:=zeQ c1 nn s;have c3:=zhm c2 nn;unfold swapS
  split
  · exact c1
  · split
    · exact zcI c2 nn
    · split
      · exact c2
      · split
        · exact c3
        · exact zeP c3 nn nm
 unfold swap
 split
 · exact h
 · split
   · split
     · exact zcI h nn
     · exact hs _ _ (zcI h nn)
   · exact hs _ _ h
theorem zgd {D:Dk} (h:Calm D):Calm (zal D).1.d:=by
 unfold zal
 split
 · exact zcJ h _
 · dsimp only
   split<;>exact zl7 (zcJ h _) _
theorem zmb:Dsk.Bd empty 0:=⟨⟨⟨by decide,by decide⟩,⟨by decide,by decide⟩⟩,Right.empty,by decide,by decide⟩
end So
namespace Trm
open Go.RowKit So Dsk Rts Sto
structure G13 (q:Int) (n k:Nat) (S:St):Prop where
 log:∃F s0 rs,Lg.Log q S F s0 rs/\s0.length+rs.length<=n
 x:S.x<=(n:Int)
 v:S.v<=(k:Int)+1
 d:Bd S.d (100*(k+1))
section
variable {q:Int} {n k:Nat} {S:St}
theorem G13.segs (h:G13 q n k S):S.g.length<=64:=by
 obtain ⟨F,s0,rs,hL,_⟩:=h.log;have h1:(S.g.map fun g=>g.b).length<=64:=hL.mo.n1
 rwa [List.length_map] at h1
theorem G13.ne (h:G13 q n k S):S.g≠[]:=by obtain ⟨F,s0,rs,hL,_⟩:=h.log;exact hL.ne
theorem G13.more (h:G13 q n k S) {n' k':Nat} (hn:n<=n') (hk:k<=k'):G13 q n' k' S:=by
 obtain ⟨F,s0,rs,hL,hl⟩:=h.log;exact ⟨⟨F,s0,rs,hL,by omega⟩,by have:=h.x;omega,by have:=h.v;omega,h.d.mono (by omega)⟩
theorem G13.stb (h:G13 q n k S) (hq:q<=1000) (hn:n<=1000) (hk:k<=500):Stb S:=by
 obtain ⟨F,s0,rs,hL,hl⟩:=h.log;have hm:=hL.mo;have hv0:1<=S.v:=hm.v0;have hv1:=h.v;have hx:=hL.x;have hf:=hL.f0;have hxn:=h.x;have hb:=hL.bases;have hlo:=hL.lo;have hhi:=hL.hi
 have hz:0<=S.z/\S.z<=65536:=by
  rcases hm.z with ⟨_,h2,_⟩ | ⟨_,h2,h3⟩
  · have h2:S.z=0:=h2
    omega
  · have h2:1<=S.z:=h2
    have h3:S.z<=65536:=h3
    omega
 refine ⟨zax h.d (by omega),⟨by omega,by omega⟩,by have:=h.segs;omega,fun g hg=>?_,⟨by omega,by omega⟩,⟨by omega,by omega⟩,⟨hz.1,by omega⟩,hm.c⟩;obtain ⟨⟨a,b⟩,⟨c,d⟩,e,f⟩:=zfT hL g hg;exact ⟨⟨a,by omega⟩,⟨c,by omega⟩,e,by omega⟩
theorem G13.may (h:G13 q n k S) (hq:q<=1000) (hn:n<=1000):Rt.May S.g:=by
 obtain ⟨F,s0,rs,hL,hl⟩:=h.log;refine ⟨by have:=h.segs;omega,fun g hg=>?_⟩;obtain ⟨⟨a,b⟩,⟨c,d⟩,e,f⟩:=zfT hL g hg;exact ⟨c,by omega,e,by omega⟩
theorem play_x {F:Int} {s0:List Fp.Pr} {rs:List Rp.Rec} (hL:Lg.Log q S F s0 rs) (hq:0<q) (hv:S.v<1099511627776) (i:Int) (a:Lg.Pa):(Lg.playA q i S a).x<=S.x+1:=by
 unfold Lg.playA
 split
 · show S.x<=_;omega
 split
 · obtain ⟨m,_,_,hx,_⟩:=hL.trim_law hv a.n a.m
   rw [hx];omega
 split
 · show S.x<=_;omega
 split
 · show S.x<=_;omega
 · have hx:=hL.x
   obtain ⟨_,_,h3⟩:=hL.append hq hv ⟨S.x,i,a.d⟩
   rcases h3 with ⟨_,_,_,h3⟩ | ⟨_,h3,_⟩
   · rw [h3.x,List.length_append,List.length_singleton];omega
   · rw [h3.x];omega
theorem G13.wants (h:G13 q n k S) (hn:n<=40):∀p,p<S.g.length->(Lg.trimB S p).length<=3000:=fun p hp=>by
 obtain ⟨F,s0,rs,hL,hl⟩:=h.log;exact (zg1 hL (by omega) hp).2
theorem G13.play (h:G13 q n k S) (hq:0<q) (hn:n<=40) (hk:k<=1000) (i:Int) (a:Lg.Pa) (ha:a.n<=9223372036854775807):G13 q (n+1) (k+1) (Lg.playA q i S a):=by
 have hs:=h.segs;have hB:=h.wants hn;have hne:=h.ne;have hv0:=h.v;obtain ⟨F,s0,rs,hL,hl⟩:=h.log
 have hv:S.v<1099511627776:=by omega
 obtain ⟨F',s0',rs',h1,h2⟩:=hL.play_n hq hv i a;refine ⟨⟨F',s0',rs',h1,by omega⟩,by have:=play_x hL hq hv i a;have:=h.x;omega,by have:=(hL.play hq hv i a).2;omega,(bd_play hne h.d ha hB).mono (by omega)⟩
end
theorem G13.new {q:Int} (hq:0<=q):G13 q 0 0 (zal Dp.empty).1:=by
 obtain ⟨h1,h2,h3⟩:=Lg.Log.new (q:=q) hq;refine ⟨⟨0,[],[],h2,Nat.le_refl _⟩,by rw [h2.x];exact Int.le_refl _,by rw [h3];exact Int.le_refl _,?_⟩;exact (zlY (k:=0) zmb (by decide) h1).d.mono (by omega)
theorem G13.acts {q:Int} (hq:0<q) (l:List Lg.Pa) (hl:∀a∈l,a.n<=9223372036854775807):∀n:Nat,n<=40->G13 q n n (Lg.playL q l n)
 | 0,_=>G13.new (by omega)
 | n+1,hn=>by
  rw [Lg.playL_succ];refine (G13.acts hq l hl n (by omega)).play hq (by omega) (by omega) n _ ?_
  rcases Nat.lt_or_ge n l.length with h | h
  · exact hl _ (by rw [zao h];exact List.getElem_mem h)
  · rw [List.getD_eq_getElem?_getD,List.getElem?_eq_none h]
    exact (by decide:(0:Int)<=9223372036854775807)
end Trm
namespace So
open Dp
def tk (X R:Dk×Int):Dk×Int:=if X.2=0 then R else X
theorem zd1 (D:Dk) (R:Dk×Int):tk (D,0) R=R:=if_pos rfl
theorem z0:¬((0:Int)≠0):=fun h=>h rfl
theorem zcP {X R:Dk×Int} (h:X.2≠0):tk X R=X:=if_neg h
theorem zb2 {D:Dk} {l:List Fl} {own:Int} (h:own≠9):(change D l own).2≠9:=by
 unfold change
 split
 · exact fun e=>by cases e
 split
 · exact h
 split
 · exact fun e=>by cases e
 · split<;>exact fun e=>by cases e
theorem zeK (D:Dk) (n:ByteArray):(create D n).2≠9:=by
 unfold create
 split
 · exact zb2 (by decide)
 · split
   · exact zb2 (by decide)
   · exact zb2 (by decide)
theorem zii (D:Dk) (n:ByteArray):(delete D n).2≠9:=by
 unfold delete
 split<;>exact zb2 (by decide)
theorem zkt (D:Dk) (n:ByteArray):(sync D n).2≠9:=by
 unfold sync
 split<;>exact zb2 (by decide)
def wo (D:Dk) (n:ByteArray):Dk×Int:=((delete D n).1,if (delete D n).2=0 then 9 else (delete D n).2)
noncomputable def zhz (s:ByteArray) (X1:Dk×Int):Dk×Int:=
 let X2:=tk X1 (create X1.1 nn)
 let X3:=tk X2 (Dp.append X2.1 nn s)
 if X3.2=9 then wo X3.1 nn else
 let X4:=tk X3 (sync X3.1 nn)
 tk X4 (rename X4.1 nn nm)
theorem zfz {s:ByteArray} {X:Dk×Int} (h:X.2≠0) (h9:X.2≠9):zhz s X=X:=by
 unfold zhz;dsimp only;rw [zcP h,zcP h,if_neg h9,zcP h,zcP h]
theorem ziE (C:Dk) (s:ByteArray):zhz s (C,0)=swapS C s:=by
 unfold zhz swapS;dsimp only;rw [zd1];have h9:=zeK C nn;obtain ⟨⟨D1,E1⟩,hC⟩:∃R,create C nn=R:=⟨_,rfl⟩;rw [hC] at h9 ⊢
 by_cases h1:E1=0
 · subst h1
   try dsimp only
   rw [if_neg z0,zd1]
   by_cases h2:(Dp.append D1 nn s).2=9
   · rw [if_pos h2,if_pos h2];rfl
   · rw [if_neg h2,if_neg h2]
     obtain ⟨⟨D2,E2⟩,hA⟩:∃R,Dp.append D1 nn s=R:=⟨_,rfl⟩
     rw [hA]
     by_cases h3:E2=0
     · subst h3
       try dsimp only
       rw [if_neg z0,zd1];obtain ⟨⟨D3,E3⟩,hS⟩:∃R,sync D2 nn=R:=⟨_,rfl⟩;rw [hS]
       by_cases h4:E3=0
       · subst h4
         try dsimp only
         rw [if_neg z0,zd1]
       · rw [if_pos h4,zcP h4]
     · have h3b:((D2,E2):Dk×Int).2≠0:=h3
       rw [if_pos h3,zcP h3b,zcP h3b]
 · rw [if_pos h1]
   have h1':(D1,E1).2≠0:=h1
   rw [zcP h1',if_neg h9,zcP h1',zcP h1']
noncomputable def swapP (D:Dk) (m:Qm.Mn):Dk×Int:=
 zhz ⟨(Qm.putM m).1.toArray⟩ (if (get D.f nn).isSome=true then tk (D,(Qm.putM m).2) (delete D nn) else (D,(Qm.putM m).2))
theorem swap_p (D:Dk) (m:Qm.Mn):swap D m=swapP D m:=by
 unfold swap swapP
 by_cases hm:Qm.Ok m
 · rw [Qm.putM_yes hm]
   dsimp only
   try dsimp only
   rw [if_neg z0,zd1]
   split
   · have h9:=zii D nn
     obtain ⟨⟨D1,E1⟩,hC⟩:∃R,delete D nn=R:=⟨_,rfl⟩
     rw [hC] at h9 ⊢
     by_cases h1:E1=0
     · subst h1
       try dsimp only
       rw [if_neg z0,ziE]
     · rw [if_pos h1,zfz h1 h9]
   · rw [ziE]
 · rw [Qm.putM_no hm]
   dsimp only
   rw [if_pos (by show (1:Int)≠0;decide)]
   have h1:((D,1):Dk×Int).2≠0:=by show (1:Int)≠0;decide
   have h9:((D,1):Dk×Int).2≠9:=by show (1:Int)≠9;decide
   split
   · rw [zcP h1,zfz h1 h9]
   · rw [zfz h1 h9]
def zdN (D:Dk):St:=⟨D,1,[⟨0,0,0⟩],0,0,0,0⟩
noncomputable def zil (D:Dk):St×Int:=
 let X1:=tk (D,0) (create D (segN 0))
 let X2:=tk X1 (swap X1.1 (man (zdN X1.1)))
 if X2.2≠0 then (⟨X2.1,0,[],0,0,0,0⟩,X2.2) else (zdN X2.1,0)
theorem create_p (D:Dk):zal D=zil D:=by
 unfold zal zil;dsimp only;rw [zd1];obtain ⟨⟨D1,E1⟩,hC⟩:∃R,create D (segN 0)=R:=⟨_,rfl⟩;rw [hC]
 by_cases h1:E1=0
 · subst h1
   try dsimp only
   rw [if_neg z0,zd1]
   rfl
 · have h1':(D1,E1).2≠0:=h1
   rw [if_pos h1',zcP h1',if_pos h1']
noncomputable def rollP (S:St):St×Int:=
 if 64<=S.g.length then (S,9) else
 let T:=(zap S).1
 let X1:=tk (T.d,(zap S).2) (create T.d (segN T.x))
 let X2:=tk X1 (swap X1.1 (man (more T X1.1)))
 if X2.2=0 then (more T X2.1,0)
 else if X2.2=9 then ({T with d:=(wo X2.1 (segN T.x)).1},(wo X2.1 (segN T.x)).2)
 else ({T with d:=X2.1},X2.2)
theorem roll_p (S:St):roll S=rollP S:=by
 unfold roll rollP
 split
 · rfl
 have h8:(zap S).2≠9:=zkt _ _;obtain ⟨⟨T,E0⟩,hT⟩:∃R,zap S=R:=⟨_,rfl⟩;rw [hT] at h8 ⊢;dsimp only at h8 ⊢
 by_cases h0:E0=0
 · subst h0
   try dsimp only
   rw [if_neg z0,zd1];have h9:=zeK T.d (segN T.x);obtain ⟨⟨D1,E1⟩,hC⟩:∃R,create T.d (segN T.x)=R:=⟨_,rfl⟩;rw [hC] at h9 ⊢;dsimp only at h9 ⊢
   by_cases h1:E1=0
   · subst h1
     try dsimp only
     rw [if_neg z0,zd1];obtain ⟨⟨D2,E2⟩,hW⟩:∃R,swap D1 (man (more T D1))=R:=⟨_,rfl⟩;rw [hW];dsimp only
     by_cases h2:E2=0
     · subst h2
       rw [if_neg (by decide),if_neg (by simp),if_pos rfl]
     · by_cases h3:E2=9
       · rw [if_pos h3,if_neg h2,if_pos h3];rfl
       · rw [if_neg h3,if_pos h2,if_neg h2,if_neg h3]
   · have h1':(D1,E1).2≠0:=h1
     rw [if_pos h1,zcP h1']
     dsimp only;rw [if_neg h1,if_neg h9]
 · have h1':((T.d,E0):Dk×Int).2≠0:=h0
   rw [if_pos h0,zcP h1']
   rw [zcP h1'];dsimp only;rw [if_neg h0,if_neg h8]
noncomputable def appP (S:St) (q:Int) (r:Rp.Rec):St×Int:=
 open Classical in
 if ¬(Rp.Ok r/\r.a=S.x) then (S,1)
 else if S.x=1099511627776 then (S,13)
 else
  let T:=if q<=(lastG S).z then (roll S).1 else S
  let E:=if q<=(lastG S).z then (roll S).2 else 0
  let X:=tk (T.d,E) (Dp.append T.d (segN (lastG T).b) ⟨(Rp.putB r).toArray⟩)
  if X.2≠0 then ({T with d:=X.1},X.2) else ({T with d:=X.1,g:=grown T.g (Rp.putB r).length,x:=T.x+1},0)
theorem put_p (T:St) (r:Rp.Rec):put T r=(if (Dp.append T.d (segN (lastG T).b) ⟨(Rp.putB r).toArray⟩).2≠0 then ({T with d:=(Dp.append T.d (segN (lastG T).b) ⟨(Rp.putB r).toArray⟩).1},(Dp.append T.d (segN (lastG T).b) ⟨(Rp.putB r).toArray⟩).2) else ({T with d:=(Dp.append T.d (segN (lastG T).b) ⟨(Rp.putB r).toArray⟩).1,g:=grown T.g (Rp.putB r).length,x:=T.x+1},0)):=rfl
theorem app_p (S:St) (q:Int) (r:Rp.Rec):So.append S q r=appP S q r:=by
 unfold So.append appP
 split
 · rfl
 rename_i h;have h:Rp.Ok r/\r.a=S.x:=Classical.not_not.1 h
 have hx:1099511627776<=S.x↔S.x=1099511627776:=by
  have:=h.1.2.1;rw [<-h.2];omega
 by_cases h2:1099511627776<=S.x
 · rw [if_pos h2,if_pos (hx.1 h2)]
 rw [if_neg h2,if_neg fun e=>h2 (hx.2 e)]
 by_cases h3:q<=(lastG S).z
 · simp only [if_pos h3]
   obtain ⟨⟨T,E0⟩,hT⟩:∃R,roll S=R:=⟨_,rfl⟩
   rw [hT];dsimp only
   by_cases h0:E0=0
   · subst h0
     try dsimp only
     rw [if_neg z0,zd1,put_p]
   · have h1':((T.d,E0):Dk×Int).2≠0:=h0
     rw [if_pos h0,zcP h1']
     dsimp only;rw [if_pos h0]
 · simp only [if_neg h3]
   rw [zd1,put_p]
end So
namespace Trm
open Go.RowKit So Dp
def NF (e:Int):Prop:=e≠9/\e≠10
theorem nf {o:Int} (h1:o≠9) (h2:o≠10):NF o:=⟨h1,h2⟩
theorem nf0:NF 0:=⟨by decide,by decide⟩
theorem nf1:NF 1:=⟨by decide,by decide⟩
theorem nf13:NF 13:=⟨by decide,by decide⟩
structure Ck (X:Dk×Int):Prop where
 c:So.Calm X.1
 n:NF X.2
theorem zbf {D:Dk} (h:So.Calm D) (l:List Fl) {o:Int} (ho:NF o):NF (change D l o).2:=by
 unfold change;rw [if_neg (by rw [h.x];decide)]
 split
 · exact ho
 · rw [if_neg (by rw [h.a];simp),if_neg (by rw [h.a];decide)]
   exact nf0
section
variable {D:Dk} (h:So.Calm D)
include h
theorem zhk (n:ByteArray):Ck (create D n):=by
 refine ⟨zcJ h n,?_⟩;unfold create
 split
 · exact zbf h _ (nf (by decide) (by decide))
 · split
   · exact zbf h _ (nf (by decide) (by decide))
   · exact zbf h _ (nf (by decide) (by decide))
theorem zeO (n s:ByteArray):Ck (Dp.append D n s):=by
 refine ⟨zeQ h n s,?_⟩;unfold Dp.append
 split
 · exact zbf h _ (nf (by decide) (by decide))
 · rw [if_neg (by rw [h.c];exact fun k=>absurd k.1 (by decide))]
   exact zbf h _ (nf (by decide) (by decide))
theorem zl3 (n:ByteArray):Ck (sync D n):=by
 refine ⟨zhm h n,?_⟩;unfold sync
 split<;>exact zbf h _ (nf (by decide) (by decide))
theorem zl5 (n:ByteArray):Ck (delete D n):=by
 refine ⟨zcI h n,?_⟩;unfold delete
 split<;>exact zbf h _ (nf (by decide) (by decide))
theorem zl4 (n m:ByteArray):Ck (rename D n m):=by
 refine ⟨zeP h n m,?_⟩;unfold rename
 split
 · exact zbf h _ (nf (by decide) (by decide))
 · split
   · exact zbf h _ (nf (by decide) (by decide))
   · exact zbf h _ (nf (by decide) (by decide))
end
theorem zgc {X R:Dk×Int} (h:Ck X) (k:Ck R):Ck (tk X R):=by
 unfold tk
 split
 · exact k
 · exact h
theorem ck_swap {D:Dk} (h:So.Calm D) (m:Qm.Mn):Ck (swap D m):=by
 have h0:Ck (D,(Qm.putM m).2):=⟨h,by
  by_cases hm:Qm.Ok m
  · rw [Qm.putM_yes hm];exact nf0
  · rw [Qm.putM_no hm];exact nf1⟩
 have h1:Ck (if (get D.f nn).isSome=true then tk (D,(Qm.putM m).2) (delete D nn) else (D,(Qm.putM m).2)):=by
  split
  · exact zgc h0 (zl5 h nn)
  · exact h0
 rw [swap_p];unfold swapP zhz;dsimp only;have h2:=zgc h1 (zhk h1.c nn);have h3:=zgc h2 (zeO h2.c nn ⟨(Qm.putM m).1.toArray⟩);have h4:=zgc h3 (zl3 h3.c nn);rw [if_neg h3.n.1];exact zgc h4 (zl4 h4.c nn nm)
theorem ck_roll {S:St} (h:So.Calm S.d) (hg:¬64<=S.g.length):So.Calm (roll S).1.d/\NF (roll S).2:=by
 have h0:Ck ((zap S).1.d,(zap S).2):=zl3 h _;have h1:=zgc h0 (zhk h0.c (segN (zap S).1.x));have h2:=zgc h1 (ck_swap h1.c (man (more (zap S).1 (tk ((zap S).1.d,(zap S).2) (create (zap S).1.d (segN (zap S).1.x))).1)));rw [roll_p];unfold rollP;rw [if_neg hg];dsimp only
 split
 · exact ⟨h2.c,nf0⟩
 · rw [if_neg h2.n.1]
   exact ⟨h2.c,h2.n⟩
theorem ck_app {S:St} (h:So.Calm S.d) (hg:¬64<=S.g.length) (q:Int) (r:Rp.Rec):So.Calm (So.append S q r).1.d/\NF (So.append S q r).2:=by
 have hR:=ck_roll h hg;rw [app_p];unfold appP
 split
 · exact ⟨h,nf1⟩
 split
 · exact ⟨h,nf13⟩
 dsimp only
 by_cases hq:q<=(lastG S).z
 · simp only [if_pos hq]
   have hX:=zgc (X:=((roll S).1.d,(roll S).2)) ⟨hR.1,hR.2⟩ (zeO hR.1 (segN (lastG (roll S).1).b) ⟨(Rp.putB r).toArray⟩)
   split
   · exact ⟨hX.c,hX.n⟩
   · exact ⟨hX.c,nf0⟩
 · simp only [if_neg hq]
   have hX:=zgc (X:=(S.d,0)) ⟨h,nf0⟩ (zeO h (segN (lastG S).b) ⟨(Rp.putB r).toArray⟩)
   split
   · exact ⟨hX.c,hX.n⟩
   · exact ⟨hX.c,nf0⟩
theorem app_ok {q F:Int} {S:St} {s0:List Fp.Pr} {rs:List Rp.Rec} (h:Lg.Log q S F s0 rs) (hc:So.Calm S.d) (hq:0<q) (hv:S.v<1099511627776) (hg:¬64<=S.g.length) {r:Rp.Rec} (hr:Rp.Ok r) (ha:r.a=S.x) (hx:S.x<1099511627776):
 (So.append S q r).2=0/\Lg.Log q (So.append S q r).1 F s0 (rs++[r]):=by
 have hn:=(ck_app hc hg q r).2;obtain ⟨_,_,h3⟩:=h.append hq hv r
 rcases h3 with ⟨h0,_,_,h3⟩ | ⟨_,_,h4⟩
 · exact ⟨h0,h3⟩
 · rcases h4 with h4 | h4 | h4 | h4
   · exact absurd ⟨hr,ha⟩ h4
   · omega
   · exact absurd h4 hn.1
   · exact absurd h4 hn.2
end Trm
namespace Lg
open Dp So Dsk Sto
section
variable {use:List ByteArray} {D:Dk} {n:ByteArray} {t:List ByteArray}
theorem sweepT_use (h:n∈use):sweepT use D (n::t)=sweepT use D t:=by rw [sweepT,if_pos h]
theorem sweepT_err (h:n∉use) (he:(delete D n).2≠0):sweepT use D (n::t)=delete D n:=by rw [sweepT,if_neg h,if_pos he]
theorem sweepT_go (h:n∉use) (he:(delete D n).2=0):sweepT use D (n::t)=sweepT use (delete D n).1 t:=by rw [sweepT,if_neg h,if_neg (fun h=>h he)]
theorem zeT (use:List ByteArray):∀(t:List ByteArray) {D:Dk} {k:Nat},Bd D k->Bd (sweepT use D t).1 (k+t.length)
 | [],_,_,h=>h
 | n::t,D,k,h=>by
  rw [List.length_cons]
  by_cases hu:n∈use
  · rw [sweepT_use hu]
    exact (zeT use t h).mono (by omega)
  · by_cases he:(delete D n).2=0
    · rw [sweepT_go hu he]
      exact (zeT use t (zaB h n)).mono (by omega)
    · rw [sweepT_err hu he]
      exact (zaB h n).mono (by omega)
end
theorem bd_sweep {D:Dk} {k:Nat} (h:Bd D k) (use:List ByteArray):Bd (sweep D use).1 (k+k):=(zeT use _ h).mono (by rw [List.length_map];have:=h.n;omega)
theorem bd_cut {D:Dk} {k:Nat} (h:Bd D k) (n:ByteArray) (w:Nat) (hw:w<=9223372036854775807):Bd (Dp.cut D n w).1 (k+1):=by
 have e:Dp.act D ⟨3,(w:Int),n,⟨#[]⟩,[]⟩=Dp.cut D n w:=by unfold Dp.act;simp
 rw [<-e];exact zbO h (a:=⟨3,(w:Int),n,⟨#[]⟩,[]⟩) (by show (w:Int)<=_;omega) (by show 0<=3000;omega)
def segG (D:Dk) (b:Int):Rt.Sg:=⟨b,(Gp.full ((dat D (segN b)).getD []) b).1.length,(Gp.full ((dat D (segN b)).getD []) b).2.1⟩
def SegGood (D:Dk) (l:List Int) (i:Nat):Prop:=dat D (segN (l.getD i 0))≠none/\(i+1<l.length->(Gp.full ((dat D (segN (l.getD i 0))).getD []) (l.getD i 0)).2.2=0/\l.getD i 0+((Gp.full ((dat D (segN (l.getD i 0))).getD []) (l.getD i 0)).1.length:Int)=l.getD (i+1) 0)
noncomputable def segA (D:Dk) (l:List Int):Option (List Rt.Sg):=open Classical in if ∀i,i<l.length->SegGood D l i then some (l.map (segG D)) else none
theorem segA_yes {D:Dk} {l:List Int} (h:∀i,i<l.length->SegGood D l i):segA D l=some (l.map (segG D)):=if_pos h
theorem segA_no {D:Dk} {l:List Int} {i:Nat} (hi:i<l.length) (h:¬SegGood D l i):segA D l=none:=if_neg fun H=>h (H i hi)
def lastW (D:Dk) (l:List Int):Nat:=(Gp.full ((dat D (segN (l.getD (l.length-1) 0))).getD []) (l.getD (l.length-1) 0)).2.1
theorem zg7 {D:Dk} {b:Int} {t:List Int}:SegGood D (b::t) 0↔(dat D (segN b)≠none/\(t≠[]->(Gp.full ((dat D (segN b)).getD []) b).2.2=0/\b+((Gp.full ((dat D (segN b)).getD []) b).1.length:Int)=t.headD 0)):=by
 unfold SegGood
 have e:(b::t).getD (0+1) 0=t.headD 0:=by cases t<;>rfl
 have e2:(0+1<(b::t).length)↔t≠[]:=by cases t<;>simp
 rw [e,e2]
 rfl
theorem zfX {D:Dk} {b:Int} {t:List Int}:(∀i,i<(b::t).length->SegGood D (b::t) i)↔(SegGood D (b::t) 0/\∀i,i<t.length->SegGood D t i):=by
 have sh:∀i,SegGood D (b::t) (i+1)↔SegGood D t i:=fun i=>by
  unfold SegGood;rw [List.length_cons];simp only [List.getD_cons_succ,Nat.add_lt_add_iff_right]
 constructor
 · exact fun h=>⟨h 0 (by simp),fun i hi=>(sh i).1 (h (i+1) (by simpa using hi))⟩
 · rintro ⟨h0,h⟩ i hi
   cases i with
   | zero=>exact h0
   | succ i=>exact (sh i).2 (h i (by simpa using hi))
theorem ziJ (D:Dk):∀l:List Int,l≠[]->zeW D l=(segA D l).map fun gs=>(gs,lastW D l)
 | [],h=>absurd rfl h
 | b::t,_=>by
  unfold zeW
  rcases hd:dat D (segN b) with _ | s
  · dsimp only
    rw [segA_no (i:=0) (by simp) (fun h=>(zg7.1 h).1 hd)]
    rfl
  · dsimp only
    have g0:= @zg7 D b t
    rw [hd,Option.getD_some] at g0
    by_cases hb:t≠[]/\((Gp.full s b).2.2≠0\/b+((Gp.full s b).1.length:Int)≠t.headD 0)
    · rw [if_pos hb,segA_no (i:=0) (by simp) (fun h=>by
       obtain ⟨_,h2⟩:=g0.1 h;obtain ⟨h3,h4⟩:=h2 hb.1
       rcases hb.2 with h5 | h5
       · exact h5 h3
       · exact h5 h4)]
      rfl
    · rw [if_neg hb]
      have hg:SegGood D (b::t) 0:=g0.2 ⟨by simp,fun ht=>by
       rcases Classical.em ((Gp.full s b).2.2=0) with h1 | h1
       · rcases Classical.em (b+((Gp.full s b).1.length:Int)=t.headD 0) with h2 | h2
         · exact ⟨h1,h2⟩
         · exact absurd ⟨ht,.inr h2⟩ hb
       · exact absurd ⟨ht,.inl h1⟩ hb⟩
      have eG:segG D b=⟨b,(Gp.full s b).1.length,(Gp.full s b).2.1⟩:=by unfold segG;rw [hd];rfl
      by_cases ht:t=[]
      · subst ht
        unfold zeW
        dsimp only;rw [segA_yes (zfX.2 ⟨hg,fun i hi=>by simp at hi⟩)];show some ([_],_)=some ([segG D b],lastW D [b]);rw [eG]
        have:lastW D [b]=(Gp.full s b).2.1:=by
         show (Gp.full ((dat D (segN b)).getD []) b).2.1=_;rw [hd];rfl
        rw [this]
        rfl
      · rw [ziJ D t ht]
        have eL:lastW D (b::t)=lastW D t:=by
         unfold lastW
         have:(b::t).getD ((b::t).length-1) 0=t.getD (t.length-1) 0:=by
          cases t with
          | nil=>exact absurd rfl ht
          | cons c t=>rfl
         rw [this]
        by_cases ha:∀i,i<t.length->SegGood D t i
        · rw [segA_yes ha,segA_yes (zfX.2 ⟨hg,ha⟩),Option.map_some,Option.map_some]
          dsimp only
          rw [if_neg ht,eL,List.map_cons,eG]
        · have e1:segA D t=none:=if_neg ha
          have e2:segA D (b::t)=none:=if_neg fun h=>ha (zfX.1 h).2
          rw [e1,e2]
          rfl
noncomputable def toldT (D:Dk) (s:List UInt8):Option St:=open Classical in
 if (Qm.getM s).2≠0\/ ¬SnapOk D (Qm.getM s).1 then none
 else (segA D (Qm.getM s).1.l).map fun gs=>⟨D,(Qm.getM s).1.v,gs,(gs.getD (gs.length-1) Rt.zero).b+(gs.getD (gs.length-1) Rt.zero).n,(gs.getD (gs.length-1) Rt.zero).b+(gs.getD (gs.length-1) Rt.zero).n,(Qm.getM s).1.z,(Qm.getM s).1.c⟩
section
variable {D:Dk} {s:List UInt8}
theorem told_no (h:(Qm.getM s).2≠0\/ ¬SnapOk D (Qm.getM s).1):toldT D s=none:=if_pos h
theorem told_go (h1:(Qm.getM s).2=0) (h2:SnapOk D (Qm.getM s).1):toldT D s=(segA D (Qm.getM s).1.l).map fun gs=>⟨D,(Qm.getM s).1.v,gs,(gs.getD (gs.length-1) Rt.zero).b+(gs.getD (gs.length-1) Rt.zero).n,(gs.getD (gs.length-1) Rt.zero).b+(gs.getD (gs.length-1) Rt.zero).n,(Qm.getM s).1.z,(Qm.getM s).1.c⟩:=if_neg fun h=>h.elim (fun h=>h h1) (fun h=>h h2)
end
def useS (S:St):List ByteArray:=nm::((if 0<floor S then [snapN (floor S)] else [])++S.g.map fun g=>segN g.b)
def settT (S:St):Dk×Int:=
 if (sweep S.d (useS S)).2≠0 then sweep S.d (useS S) else endT (sweep S.d (useS S)).1 (segN (lastG S).b) (lastG S).z.toNat
noncomputable def freshT (D:Dk):St×Int:=if (sweep D []).2≠0 then (bare (sweep D []).1,(sweep D []).2) else zal (sweep D []).1
theorem getM_ok {s:List UInt8} (h:(Qm.getM s).2=0):Qm.Ok (Qm.getM s).1:=by
 unfold Qm.getM at h ⊢
 rcases hx:Fr.nx s with ⟨e,j,b⟩
 rw [hx] at h
 cases e with
 | zero=>
  dsimp only at h ⊢
  by_cases hm:∃m,Qm.Ok m/\Fr.fr (Qm.body m)=s
  · rw [dif_pos hm];exact hm.choose_spec.1
  · rw [dif_neg hm] at h;exact absurd h (by decide)
 | succ e=>exact absurd h (by show ((e+1:Nat):Int)≠0;omega)
theorem segG_map (D:Dk) (l:List Int):(l.map (segG D)).map (fun g=>segN g.b)=l.map segN:=by rw [List.map_map];rfl
theorem last_map (D:Dk) {l:List Int} (h:l≠[]):(l.map (segG D)).getD ((l.map (segG D)).length-1) Rt.zero=segG D (l.getD (l.length-1) 0):=by
 have hp:=List.length_pos_iff.2 h;rw [List.length_map,List.getD_eq_getElem?_getD,List.getD_eq_getElem?_getD,List.getElem?_map,List.getElem?_eq_getElem (show l.length-1<l.length by omega)]
 rfl
theorem head_map (D:Dk) (l:List Int):((l.map (segG D)).headD Rt.zero).b=l.headD 0:=by cases l<;>rfl
theorem openT_eq (D:Dk):openT D=if D.x=true then (bare D,10) else match dat D nm with
 | none=>freshT D
 | some s=>match toldT D s with
  | none=>(bare D,3)
  | some S=>if (settT S).2≠0 then (bare (settT S).1,(settT S).2) else ({S with d:=(settT S).1},0):=by
 classical
 unfold openT
 by_cases hx:D.x=true
 · rw [if_pos hx,if_pos hx]
 rw [if_neg hx,if_neg hx]
 rcases dat D nm with _ | s
 · rfl
 dsimp only;unfold toldT
 by_cases h1:(Qm.getM s).2≠0\/ ¬SnapOk D (Qm.getM s).1
 · rw [if_pos h1,if_pos h1]
 rw [if_neg h1,if_neg h1];have hok:=getM_ok (s:=s) (Classical.not_not.1 fun h=>h1 (.inl h));have hne:(Qm.getM s).1.l≠[]:=List.length_pos_iff.1 hok.n0;generalize (Qm.getM s).1=m at*;unfold zjW;rw [ziJ D _ hne]
 rcases hs:segA D m.l with _ | gs
 · rfl
 have hgs:gs=m.l.map (segG D):=by
  unfold segA at hs
  split at hs
  · exact (Option.some.inj hs).symm
  · cases hs
 subst hgs;rw [Option.map_some,Option.map_some];dsimp only;rw [last_map D hne]
 have eu:useS ⟨D,m.v,m.l.map (segG D),(segG D (m.l.getD (m.l.length-1) 0)).b+(segG D (m.l.getD (m.l.length-1) 0)).n,(segG D (m.l.getD (m.l.length-1) 0)).b+(segG D (m.l.getD (m.l.length-1) 0)).n,m.z,m.c⟩=useT m:=by
  unfold useS useT So.floor;dsimp only;rw [segG_map,head_map]
 have el:lastG ⟨D,m.v,m.l.map (segG D),(segG D (m.l.getD (m.l.length-1) 0)).b+(segG D (m.l.getD (m.l.length-1) 0)).n,(segG D (m.l.getD (m.l.length-1) 0)).b+(segG D (m.l.getD (m.l.length-1) 0)).n,m.z,m.c⟩=segG D (m.l.getD (m.l.length-1) 0):=last_map D hne
 have ew:lastW D m.l=(segG D (m.l.getD (m.l.length-1) 0)).z.toNat:=by
  unfold lastW segG;dsimp only;rw [Int.toNat_natCast]
 unfold settT;rw [eu,el,ew]
 by_cases h2:(sweep D (useT m)).2≠0
 · rw [if_pos h2,if_pos h2,if_pos h2]
 · rw [if_neg h2,if_neg h2]
end Lg
end Go.Proofs.YtooipogbmfkeeaaGreat

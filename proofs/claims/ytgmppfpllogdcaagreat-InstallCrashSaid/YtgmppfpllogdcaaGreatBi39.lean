/-
  Parts of what the laws of this seat stand on:TrmGood,StoAw,TrmG,TrmTk,StoApp2.
-/
import Derived.Test.YtgmppfpllogdcaaGreatBi1
import Derived.Test.YtgmppfpllogdcaaGreatBi22
import Derived.Test.YtgmppfpllogdcaaGreatBi30
import Derived.Test.YtgmppfpllogdcaaGreatBi35
import Derived.Test.YtgmppfpllogdcaaGreatBi36
import Derived.Test.YtgmppfpllogdcaaGreatBi38
import Derived.Test.YtgmppfpllogdcaaGreatBi6
set_option maxRecDepth 100000
set_option maxHeartbeats 6400000
namespace Go.Proofs.YtgmppfpllogdcaaGreat
namespace Trm
open Go.RowKit So Dsk Rts Sto
theorem zdK:∀(t:List Rt.Sg) {D:Dp.Dk} {k:Nat},Bd D k->Bd (Lg.delSegs D t).1 (k+t.length)
 | [],_,_,h=>h
 | g::t,D,k,h=>by
  have h1:=zam h (segN g.b);show Bd (if (Dp.delete D (segN g.b)).2≠0 then Dp.delete D (segN g.b) else Lg.delSegs (Dp.delete D (segN g.b)).1 t).1 _;rw [List.length_cons]
  split
  · exact h1.mono (by omega)
  · exact (zdK t h1).mono (by omega)
theorem bd_trimK {S:St} {p k:Nat} (h:Bd S.d k) (hB:(Lg.trimB S p).length<=3000):Bd (Lg.trimK S p).1.d (k+12+S.g.length):=by
 have hbs:(⟨(Lg.trimB S p).toArray⟩:ByteArray).size<=3000:=by show (Lg.trimB S p).toArray.size<=3000;rw [List.size_toArray];exact hB
 have h1:Bd (Lg.trim1 S p).1 (k+3):=by
  have c:=zas h (Lg.snapN (Lg.trimF S p));unfold Lg.trim1
  split
  · exact c.mono (by omega)
  · exact bd_undo (zbb c (Lg.snapN (Lg.trimF S p)) hbs) _ _
 have h2:Bd (Lg.trim2 S p).1 (k+4):=by
  unfold Lg.trim2
  split
  · exact h1.mono (by omega)
  · exact zbs h1 _
 have h3:Bd (Lg.trim3 S p).1 (k+10):=by
  unfold Lg.trim3
  split
  · exact h2.mono (by omega)
  · exact bd_undo (zb9 h2 (man (Lg.trimX S p))) _ _
 have h4:Bd (Lg.trim4 S p (Lg.trim3 S p).1).1 (k+11+S.g.length):=by
  have d:=zdK (S.g.take p) h3
  have l:(S.g.take p).length<=S.g.length:=by rw [List.length_take];omega
  unfold Lg.trim4
  split
  · exact (zam d _).mono (by omega)
  · exact d.mono (by omega)
 unfold Lg.trimK
 split
 · exact h.mono (by omega)
 split
 · exact h3.mono (by omega)
 · exact h4.mono (by omega)
theorem bd_put {S:St} {k:Nat} (h:Bd S.d k) (r:Rp.Rec):Bd (put S r).1.d (k+1):=by
 have h1:=zbb h (segN (lastG S).b) (s:=⟨(Rp.putB r).toArray⟩) (by rw [zaO];have:=Rp.putB_le r;omega);unfold put;dsimp only
 split<;>exact h1
theorem bd_app {S:St} {k:Nat} (hn:S.g≠[]) (h:Bd S.d k) (q:Int) (r:Rp.Rec):Bd (So.append S q r).1.d (k+9):=by
 have hr:=roll_raw hn h;unfold So.append
 split
 · exact h.mono (by omega)
 split
 · exact h.mono (by omega)
 split
 · split
   · exact hr.d.mono (by omega)
   · exact bd_put hr.d _
 · exact (bd_put h _).mono (by omega)
theorem bd_play {q i:Int} {S:St} {a:Lg.Pa} {k:Nat} (hn:S.g≠[]) (h:Bd S.d k) (ha:a.n<=9223372036854775807) (hB:∀p,p<S.g.length->(Lg.trimB S p).length<=3000):Bd (Lg.playA q i S a).d (k+12+S.g.length):=by
 unfold Lg.playA
 split
 · exact (zbs h (segN (lastG S).b)).mono (by omega)
 split
 · unfold Lg.trimT
   exact bd_trimK h (hB _ ((Lg.pickN_is S.g a.n a.m).lt.2 (List.length_pos_iff.2 hn)))
 split
 · have:=zbO h (a:=⟨6,a.n,⟨#[]⟩,⟨#[]⟩,[]⟩) ha (by show (0:Nat)<=3000;omega)
   rw [act6] at this
   exact this.mono (by omega)
 split
 · have:=zbO h (a:=⟨7,a.n,⟨#[]⟩,⟨#[]⟩,[]⟩) ha (by show (0:Nat)<=3000;omega)
   rw [act7] at this
   exact this.mono (by omega)
 · exact (bd_app hn h q _).mono (by omega)
theorem zgI {q F:Int} {S:St} {s0:List Fp.Pr} {rs:List Rp.Rec} (h:Lg.Log q S F s0 rs) (hn:s0.length+rs.length<=40) {p:Nat} (hp:p<S.g.length):
 fewP (Lg.stateT S (Lg.trimF S p))=true/\(Lg.trimB S p).length<=3000:=by
 obtain ⟨b1,b2,b3⟩:=h.bases;have hm:=b3 (S.g.getD p Rt.zero) (by rw [zao hp];exact List.getElem_mem hp);have hx:=h.x;have hF:Lg.trimF S p=(S.g.getD p Rt.zero).b:=rfl
 have e:Lg.trimF S p=F+(((Lg.trimF S p-F).toNat:Nat):Int):=by omega
 have w:=h.few hn (Nat.le_refl _) (k:=(Lg.trimF S p-F).toNat) (by omega);rw [<-e] at w;exact ⟨w.2.2.1,w.2.2.2⟩
theorem zgS {D:Dp.Dk} {q:Int}:∀{t:List Rt.Sg} {b:Int} {rs:List Rp.Rec},Lg.Fulls D q t b rs->∀g∈t,(0<=g.n/\g.n<=rs.length)/\(0<=g.z/\g.z<=q+90)
 | g::t,b,rs,⟨h1,l,r,h2,h3,h4,h5,h6,h7,h8,h9⟩,x,hx=>by
  rw [h2,List.length_append]
  rcases List.mem_cons.1 hx with rfl | hx
  · exact ⟨⟨by omega,by omega⟩,⟨by omega,h8⟩⟩
  · have ih:=zgS h9 x hx
    exact ⟨⟨ih.1.1,by omega⟩,ih.2⟩
theorem zfE {q F:Int} {S:St} {s0:List Fp.Pr} {rs:List Rp.Rec} (h:Lg.Log q S F s0 rs):∀g∈S.g,(0<=g.b/\g.b<=1099511627776)/\(0<=g.n/\g.n<=rs.length)/\(0<=g.z/\g.z<=q+90):=fun g hg=>by
 obtain ⟨b1,b2,b3⟩:=h.bases;have hb:=b3 g hg;have h0:=h.f0;have hx:=h.fx;obtain ⟨t,l,r,e1,e2,e3,e4,e5,e6,e7,e8⟩:=h.seg;refine ⟨⟨by omega,by omega⟩,?_⟩;rw [e1] at hg;rw [e2,List.length_append]
 rcases List.mem_append.1 hg with hg | hg
 · have m:=zgS e3 g hg
   exact ⟨⟨m.1.1,by omega⟩,m.2⟩
 · rw [List.mem_singleton] at hg
   subst hg
   exact ⟨⟨by omega,by omega⟩,⟨by omega,e8⟩⟩
end Trm
namespace So
open Go.RowKit Dp
theorem za8 {D:Dk} (h:Calm D) (l:List Fl) (o:Int):Calm (Dp.change D l o).1:=by
 unfold Dp.change;rw [if_neg (by rw [h.x];decide)]
 split
 · exact h
 · rw [if_neg (by rw [h.a];simp),if_neg (by rw [h.a];decide)]
   exact ⟨h.x,h.a,h.c⟩
theorem zdh {D:Dk} (h:Calm D) (n:ByteArray):Calm (Dp.create D n).1:=by
 unfold Dp.create
 split
 · exact za8 h _ _
 · split<;>exact za8 h _ _
theorem zh6 {D:Dk} (h:Calm D) (n s:ByteArray):Calm (Dp.append D n s).1:=by
 unfold Dp.append
 split
 · exact za8 h _ _
 · split<;>exact za8 h _ _
theorem zlI {D:Dk} (h:Calm D) (n:ByteArray):Calm (Dp.sync D n).1:=by
 unfold Dp.sync
 split<;>exact za8 h _ _
theorem zh5 {D:Dk} (h:Calm D) (n m:ByteArray):Calm (Dp.rename D n m).1:=by
 unfold Dp.rename
 split
 · exact za8 h _ _
 · split<;>exact za8 h _ _
theorem zdg {D:Dk} (h:Calm D) (n:ByteArray):Calm (Dp.delete D n).1:=by
 unfold Dp.delete
 split<;>exact za8 h _ _
theorem zlJ {D:Dk} (h:Calm D) (m:Qm.Mn):Calm (swap D m).1:=by
 have hs:∀(E:Dk) (s:ByteArray),Calm E->Calm (swapS E s).1:=fun E s hE=>by
  have c1:=zdh hE nn;have c2:=zh6 c1 nn s;have c3:=zlI c2 nn;unfold swapS
  split
  · exact c1
  · split
    · exact zdg c2 nn
    · split
      · exact c2
      · split
        · exact c3
        · exact zh5 c3 nn nm
 unfold swap
 split
 · exact h
 · split
   · split
     · exact zdg h nn
     · exact hs _ _ (zdg h nn)
   · exact hs _ _ h
theorem zfL {D:Dk} (h:Calm D):Calm (zal D).1.d:=by
 unfold zal
 split
 · exact zdh h _
 · dsimp only
   split<;>exact zlJ (zdh h _) _
theorem zlL:Dsk.Bd empty 0:=⟨⟨⟨by decide,by decide⟩,⟨by decide,by decide⟩⟩,Right.empty,by decide,by decide⟩
end So
namespace Trm
open Go.RowKit So Dsk Rts Sto
structure G13 (q:Int) (n k:Nat) (S:St):Prop where
 log:∃F s0 rs,Lg.Log q S F s0 rs/\s0.length+rs.length<=n
 x:S.x<=(n:Int)
 v:S.v<=(k:Int)+1
 d:Bd S.d (100*(k+1))
section
variable {q:Int} {n k:Nat} {S:St}
theorem G13.segs (h:G13 q n k S):S.g.length<=64:=by
 obtain ⟨F,s0,rs,hL,_⟩:=h.log;have h1:(S.g.map fun g=>g.b).length<=64:=hL.mo.n1
 rwa [List.length_map] at h1
theorem G13.ne (h:G13 q n k S):S.g≠[]:=by obtain ⟨F,s0,rs,hL,_⟩:=h.log;exact hL.ne
theorem G13.more (h:G13 q n k S) {n' k':Nat} (hn:n<=n') (hk:k<=k'):G13 q n' k' S:=by
 obtain ⟨F,s0,rs,hL,hl⟩:=h.log;exact ⟨⟨F,s0,rs,hL,by omega⟩,by have:=h.x;omega,by have:=h.v;omega,h.d.mono (by omega)⟩
theorem G13.stb (h:G13 q n k S) (hq:q<=1000) (hn:n<=1000) (hk:k<=500):Stb S:=by
 obtain ⟨F,s0,rs,hL,hl⟩:=h.log;have hm:=hL.mo;have hv0:1<=S.v:=hm.v0;have hv1:=h.v;have hx:=hL.x;have hf:=hL.f0;have hxn:=h.x;have hb:=hL.bases;have hlo:=hL.lo;have hhi:=hL.hi
 have hz:0<=S.z/\S.z<=65536:=by
  rcases hm.z with ⟨_,h2,_⟩ | ⟨_,h2,h3⟩
  · have h2:S.z=0:=h2
    omega
  · have h2:1<=S.z:=h2
    have h3:S.z<=65536:=h3
    omega
 refine ⟨zaM h.d (by omega),⟨by omega,by omega⟩,by have:=h.segs;omega,fun g hg=>?_,⟨by omega,by omega⟩,⟨by omega,by omega⟩,⟨hz.1,by omega⟩,hm.c⟩;obtain ⟨⟨a,b⟩,⟨c,d⟩,e,f⟩:=zfE hL g hg;exact ⟨⟨a,by omega⟩,⟨c,by omega⟩,e,by omega⟩
theorem G13.may (h:G13 q n k S) (hq:q<=1000) (hn:n<=1000):Rt.May S.g:=by
 obtain ⟨F,s0,rs,hL,hl⟩:=h.log;refine ⟨by have:=h.segs;omega,fun g hg=>?_⟩;obtain ⟨⟨a,b⟩,⟨c,d⟩,e,f⟩:=zfE hL g hg;exact ⟨c,by omega,e,by omega⟩
theorem play_x {F:Int} {s0:List Fp.Pr} {rs:List Rp.Rec} (hL:Lg.Log q S F s0 rs) (hq:0<q) (hv:S.v<1099511627776) (i:Int) (a:Lg.Pa):(Lg.playA q i S a).x<=S.x+1:=by
 unfold Lg.playA
 split
 · show S.x<=_;omega
 split
 · obtain ⟨m,_,_,hx,_⟩:=hL.trim_law hv a.n a.m
   rw [hx];omega
 split
 · show S.x<=_;omega
 split
 · show S.x<=_;omega
 · have hx:=hL.x
   obtain ⟨_,_,h3⟩:=hL.append hq hv ⟨S.x,i,a.d⟩
   rcases h3 with ⟨_,_,_,h3⟩ | ⟨_,h3,_⟩
   · rw [h3.x,List.length_append,List.length_singleton];omega
   · rw [h3.x];omega
theorem G13.wants (h:G13 q n k S) (hn:n<=40):∀p,p<S.g.length->(Lg.trimB S p).length<=3000:=fun p hp=>by
 obtain ⟨F,s0,rs,hL,hl⟩:=h.log;exact (zgI hL (by omega) hp).2
theorem G13.play (h:G13 q n k S) (hq:0<q) (hn:n<=40) (hk:k<=1000) (i:Int) (a:Lg.Pa) (ha:a.n<=9223372036854775807):G13 q (n+1) (k+1) (Lg.playA q i S a):=by
 have hs:=h.segs;have hB:=h.wants hn;have hne:=h.ne;have hv0:=h.v;obtain ⟨F,s0,rs,hL,hl⟩:=h.log
 have hv:S.v<1099511627776:=by omega
 obtain ⟨F',s0',rs',h1,h2⟩:=hL.play_n hq hv i a;refine ⟨⟨F',s0',rs',h1,by omega⟩,by have:=play_x hL hq hv i a;have:=h.x;omega,by have:=(hL.play hq hv i a).2;omega,(bd_play hne h.d ha hB).mono (by omega)⟩
end
theorem G13.new {q:Int} (hq:0<=q):G13 q 0 0 (zal Dp.empty).1:=by
 obtain ⟨h1,h2,h3⟩:=Lg.Log.new (q:=q) hq;refine ⟨⟨0,[],[],h2,Nat.le_refl _⟩,by rw [h2.x];exact Int.le_refl _,by rw [h3];exact Int.le_refl _,?_⟩;exact (zlE (k:=0) zlL (by decide) h1).d.mono (by omega)
theorem G13.acts {q:Int} (hq:0<q) (l:List Lg.Pa) (hl:∀a∈l,a.n<=9223372036854775807):∀n:Nat,n<=40->G13 q n n (Lg.playL q l n)
 | 0,_=>G13.new (by omega)
 | n+1,hn=>by
  rw [Lg.playL_succ];refine (G13.acts hq l hl n (by omega)).play hq (by omega) (by omega) n _ ?_
  rcases Nat.lt_or_ge n l.length with h | h
  · exact hl _ (by rw [zao h];exact List.getElem_mem h)
  · rw [List.getD_eq_getElem?_getD,List.getElem?_eq_none h]
    exact (by decide:(0:Int)<=9223372036854775807)
end Trm
namespace Trm
open So Dp
def freedP (D:Dk) (l:List ByteArray):Dk×Int:=l.foldl (fun X n=>tk X (delete X.1 n)) (D,0)
theorem freed_no:∀(l:List ByteArray) {X:Dk×Int},X.2≠0->l.foldl (fun X n=>tk X (delete X.1 n)) X=X
 | [],_,_=>rfl
 | n::l,X,h=>by rw [List.foldl_cons,zdj h,freed_no l h]
theorem zfc:∀(t:List Rt.Sg) (D:Dk),(t.map fun g=>segN g.b).foldl (fun X n=>tk X (delete X.1 n)) (D,0)=Lg.delSegs D t
 | [],_=>rfl
 | g::t,D=>by
  rw [List.map_cons,List.foldl_cons,zfm];show _=(if (delete D (segN g.b)).2≠0 then delete D (segN g.b) else Lg.delSegs (delete D (segN g.b)).1 t);obtain ⟨⟨D1,E1⟩,hC⟩:∃R,delete D (segN g.b)=R:=⟨_,rfl⟩;rw [hC]
  by_cases h1:E1=0
  · subst h1
    rw [if_neg z0,zfc t D1]
  · have hz:((D1,E1):Dk×Int).2≠0:=h1
    rw [if_pos h1,freed_no _ hz]
def goneL (S:St) (p:Nat):List ByteArray:=((S.g.take p).map fun g=>segN g.b)++(if 0<floor S then [Lg.snapN (floor S)] else [])
theorem trim4_p (S:St) (p:Nat) (D:Dk):Lg.trim4 S p D=freedP D (goneL S p):=by
 unfold freedP goneL;rw [List.foldl_append,zfc]
 have e:Lg.trim4 S p D=if (Lg.delSegs D (S.g.take p)).2=0/\0<floor S then delete (Lg.delSegs D (S.g.take p)).1 (Lg.snapN (floor S)) else Lg.delSegs D (S.g.take p):=rfl
 rw [e];obtain ⟨⟨D1,E1⟩,hC⟩:∃R,Lg.delSegs D (S.g.take p)=R:=⟨_,rfl⟩;rw [hC]
 by_cases hf:0<floor S
 · rw [if_pos hf,List.foldl_cons,List.foldl_nil]
   by_cases h1:E1=0
   · subst h1
     rw [if_pos ⟨rfl,hf⟩,zfm]
   · have hz:((D1,E1):Dk×Int).2≠0:=h1
     rw [if_neg (fun h=>h1 h.1),zdj hz]
 · rw [if_neg hf,List.foldl_nil,if_neg (fun h=>hf h.2)]
end Trm
namespace Sto
open Go.RowKit So Dsk Rts
theorem zlb {S:St} {m:Nat} (h:S.g.length=m+1):S.g.getD m Rt.zero=lastG S:=by unfold lastG;rw [h];rfl
theorem ok_fault {r:Rp.Rec} (h:¬Rp.Ok r):Rp.fault r≠0:=by
 rcases Rp.fault_cases r with h1 | h1
 · exact absurd h1.2 h
 · have:=h1.2;omega
theorem zdr (fa ga:Option Addr) (fn fc gn gc:Nat) (S:St) (q:Int) (r:Rp.Rec) (w:World) (k:Nat) (hv:IsL FL w (.slice fa fn fc) S.d.f) (hg:IsL Rts.SL w (.slice ga gn gc) S.g) (hn:S.g≠[]) (hB:Stb S) (hS:Bd S.d k) (hk:k<=70000) (hver:S.v<1152921504606846976) (hr:RecOk r):
 Calls Tryz.prog 16 #[zag (.slice fa fn fc) (.slice ga gn gc) S,.int .i64 q,zbm r] w (zdW w (.slice fa fn fc) (.slice ga gn gc) (append S q r)):=by
 have T0:=zid fun (W0:World)=> @Ta.new w (.slice fa fn fc) (.slice ga gn gc) S #[.int .i64 r.a,.int .i64 r.t,.string r.d] 46 W0 hv hg;have hgl:=hg.len.1
 have hgn:gn<=1000:=by rw [hgl];exact hB.n
 have hpos:0<S.g.length:=List.length_pos_iff.2 hn;obtain ⟨m,rfl⟩:∃m,gn=m+1:=⟨gn-1,by omega⟩;have HGL:=zid hgl;have RO:=zid fun (hx:S.x<=1099511627776) (W:World) (h1:IsL FL W (.slice fa fn fc) S.d.f) (h2:IsL Rts.SL W (.slice ga (m+1) gc) S.g)=>zkq fa ga fn fc (m+1) gc S W k h1 h2 hn hB hS (by omega) ⟨hB.x.1,hx⟩ hver;have RF:=zid (zjk hn hB hS hk hver);have HB:=zid hB;have HS:=zid hS;have HN:=zid hn;have HRO:=zid hr;have RR:=zid fun W:World=>zji r W hr.d1;have HAP:=zid (append.eq_1 S q r);have hxb:=hB.x;obtain ⟨ra0,ra1,rt0,rt1,rd1⟩:=hr;clear hv hg hn hB hS hgl hpos;unfold zag at RO ⊢;unfold zbm at RR ⊢
 go_enter Tryz.func16,Tryz.ntmps16
 go_upto_region 1 with (fail);obtain ⟨w0,hW⟩:∃W0,((w.alloc (.cells #[.slice fa fn fc,.int .i64 S.d.c,.bool S.d.a,.int .i64 S.d.l,.bool S.d.x,.int .i64 S.v,.slice ga (m+1) gc,.int .i64 S.x,.int .i64 S.s,.int .i64 S.z,.int .u32 S.c] 31)).alloc (.cells #[.int .i64 r.a,.int .i64 r.t,.string r.d] 46)).alloc (.cells #[.slice none 0 0,.int .i64 0,.bool false,.int .i64 0,.bool false,.int .i64 0,.slice none 0 0,.int .i64 0,.int .i64 0,.int .i64 0,.int .u32 0] 31)=W0:=⟨_,rfl⟩;rw [hW];have T1:=T0.out w0 hW;clear T0 hW;obtain ⟨e0,e1,e2⟩:=cells3 T1.e;have TT:=zid T1;clear T1
 by_cases hok:Rp.Ok r
 case neg=>
  have HR:=zid (show append S q r=(S,1) from by rw [HAP.out,if_pos (fun h=>hok h.1)]);rw [zk0 (ok_fault hok)] at RR;clear hok;go_wp2_with fail;refine (RR.out _).mono ?_;rintro e w1 ⟨rfl,b1⟩;have T2:=TT.out.keep b1;clear b1 e0 e1 e2;obtain ⟨⟨k0,k1,k2,k3,k4⟩,k5,k6,k7,k8,k9,k10⟩:=zab T2.d;obtain ⟨⟨r0,r1,r2,r3,r4⟩,r5,r6,r7,r8,r9,r10⟩:=zab T2.q;have kr:=zaf T2.q;have TF:=zid T2.fin;clear T2;go_wp2_with fail;obtain ⟨Z3,hZ3,Z4,Z5⟩:=TF.out;rw [hZ3];obtain ⟨⟨s0,s1,s2,s3,s4⟩,s5,s6,s7,s8,s9,s10⟩:=zab Z4;refine bodyPost_ret (v:= .tuple #[zag (.slice fa fn fc) (.slice ga (m+1) gc) S,.int .i64 1]) (by unfold zag;simp [results,Tryz.results16,go_sem,s0,s1,s2,s3,s4,s5,s6,s7,s8,s9,s10]) rfl ?_;rw [HR.out];exact ⟨_,_,_,_,_,_,rfl,Z5⟩
 have HOK:=zid hok;rw [zkY (Rp.fault_zero hok)] at RR;clear hok
 by_cases hat:r.a=S.x
 case neg=>
  have HR:=zid (show append S q r=(S,1) from by rw [HAP.out,if_pos (fun h=>hat h.2)])
  have hat':(r.a != S.x)=true:=by simpa using hat
  clear hat;go_wp2_with fail;refine (RR.out _).mono ?_;rintro e w1 ⟨rfl,b1⟩;have T2:=TT.out.keep b1;clear b1 e0 e1 e2;obtain ⟨e0,e1,e2⟩:=cells3 T2.e;obtain ⟨⟨k0,k1,k2,k3,k4⟩,k5,k6,k7,k8,k9,k10⟩:=zab T2.d;obtain ⟨⟨r0,r1,r2,r3,r4⟩,r5,r6,r7,r8,r9,r10⟩:=zab T2.q;have kr:=zaf T2.q;have TF:=zid T2.fin;clear T2;go_wp2_with fail;obtain ⟨Z3,hZ3,Z4,Z5⟩:=TF.out;rw [hZ3];obtain ⟨⟨s0,s1,s2,s3,s4⟩,s5,s6,s7,s8,s9,s10⟩:=zab Z4;refine bodyPost_ret (v:= .tuple #[zag (.slice fa fn fc) (.slice ga (m+1) gc) S,.int .i64 1]) (by unfold zag;simp [results,Tryz.results16,go_sem,s0,s1,s2,s3,s4,s5,s6,s7,s8,s9,s10]) rfl ?_;rw [HR.out];exact ⟨_,_,_,_,_,_,rfl,Z5⟩
 have HAT:=zid hat
 have hat':(r.a != S.x)=false:=by simpa using hat
 clear hat;go_wp2_with fail;refine (RR.out _).mono ?_;rintro e w1 ⟨rfl,b1⟩;have T2:=TT.out.keep b1;clear b1 e0 e1 e2 TT RR;obtain ⟨e0,e1,e2⟩:=cells3 T2.e;obtain ⟨⟨k0,k1,k2,k3,k4⟩,k5,k6,k7,k8,k9,k10⟩:=zab T2.d;obtain ⟨⟨r0,r1,r2,r3,r4⟩,r5,r6,r7,r8,r9,r10⟩:=zab T2.q;have kr:=zaf T2.q;have TT:=zid T2;clear T2
 by_cases hend:1099511627776<=S.x
 · have HR:=zid (show append S q r=(S,13) from by rw [HAP.out,if_neg (fun h=>h ⟨HOK.out,HAT.out⟩),if_pos hend])
   have TF:=zid TT.out.fin
   go_wp2_with fail;obtain ⟨Z3,hZ3,Z4,Z5⟩:=TF.out;rw [hZ3];obtain ⟨⟨s0,s1,s2,s3,s4⟩,s5,s6,s7,s8,s9,s10⟩:=zab Z4;refine bodyPost_ret (v:= .tuple #[zag (.slice fa fn fc) (.slice ga (m+1) gc) S,.int .i64 13]) (by unfold zag;simp [results,Tryz.results16,go_sem,s0,s1,s2,s3,s4,s5,s6,s7,s8,s9,s10]) rfl ?_;rw [HR.out];exact ⟨_,_,_,_,_,_,rfl,Z5⟩
 have HEN:=zid (show append S q r=(if q<=(lastG S).z then (if (roll S).2≠0 then roll S else put (roll S).1 r) else put S r) from by rw [HAP.out,if_neg (fun h=>h ⟨HOK.out,HAT.out⟩),if_neg hend])
 have hend':decide ((1099511627776:Int)<=S.x)=false:=by simpa using hend
 have hx1:S.x<=1099511627776:=by omega
 have RO2:=zid (RO.out hx1);have HLA:=zid (zlb HGL.out.symm);obtain ⟨gb,goff,rfl,g0,g1,g2⟩:=zce TT.out.g (Nat.lt_succ_self m);rw [HLA.out] at g0 g1 g2
 have hmw:IntKind.i64.wrap (((m+1:Nat):Int)-1)=(m:Int):=by
  rw [show ((m+1:Nat):Int)-1=(m:Int) from by omega];exact IntWalk.i64_in _ ⟨by omega,by omega⟩
 have hmw2:IntKind.i64.wrap (m:Int)=(m:Int):=IntWalk.i64_in _ ⟨by omega,by omega⟩;clear hend HAP RO
 go_upto_if 40 with (fail)
 go_cut [] (fun we=>∃T:St,Hid (append S q r=put T r/\Bd T.d (k+8)/\Stb T/\T.g≠[]/\T.x=S.x)/\TaR w (.slice fa fn fc) (.slice (some ⟨gb,goff,none⟩) (m+1) gc) (.cells #[.int .i64 r.a,.int .i64 r.t,.string r.d] 46) T we)
 case first=>
  by_cases hq:q<=(lastG S).z
  · obtain ⟨⟨T,E⟩,hT⟩:∃R,roll S=R:=⟨_,rfl⟩
    have RO3:=RO2.out _ TT.out.f TT.out.g
    rw [hT] at RO3;have RF2:=RF.out;rw [hT] at RF2;have HE:=zid (show append S q r=(if E≠0 then (T,E) else put T r) from by rw [HEN.out,if_pos hq,hT]);replace RF2:=zid RF2;replace RO3:=zid RO3;clear hT RO2 RF HEN;go_wp2_with fail;refine RO3.out.mono ?_;rintro e w2 ⟨a1,n1,c1,a2,n2,c2,rfl,ks⟩;have al:=(Below.refl w2.heap.size w2).alloc (Nat.le_refl _) (.cells #[.slice a1 n1 c1,.int .i64 T.d.c,.bool T.d.a,.int .i64 T.d.l,.bool T.d.x,.int .i64 T.v,.slice a2 n2 c2,.int .i64 T.x,.int .i64 T.s,.int .i64 T.z,.int .u32 T.c] 31);have X2:=heap_alloc_new w2 (.cells #[.slice a1 n1 c1,.int .i64 T.d.c,.bool T.d.a,.int .i64 T.d.l,.bool T.d.x,.int .i64 T.v,.slice a2 n2 c2,.int .i64 T.x,.int .i64 T.s,.int .i64 T.z,.int .u32 T.c] 31);have LR:=zid (TT.out.roll ks al);have LG:=zid (TT.out.gone ks al);have kf:=zaf (hkeep (hkeep TT.out.d ks.w) al);have kr:=zaf (hkeep (hkeep TT.out.q ks.w) al);clear k0 k1 k2 k3 k4 k5 k6 k7 k8 k9 k10 r0 r1 r2 r3 r4 r5 r6 r7 r8 r9 r10 e0 e1 e2 g0 g1 g2;obtain ⟨⟨k0,k1,k2,k3,k4⟩,k5,k6,k7,k8,k9,k10⟩:=zab (hkeep (hkeep TT.out.d ks.w) al);obtain ⟨⟨r0,r1,r2,r3,r4⟩,r5,r6,r7,r8,r9,r10⟩:=zab (hkeep (hkeep TT.out.q ks.w) al);obtain ⟨⟨x0,x1,x2,x3,x4⟩,x5,x6,x7,x8,x9,x10⟩:=zab X2;clear al X2 ks;unfold zag
    by_cases hz:E=0
    · subst hz
      go_wp2_with fail
      obtain ⟨Z,hZ,Z1⟩:=LR.out;rw [hZ];go_meet
      case rel=>exact ⟨T,⟨HE.out,RF2.out⟩,_,_,_,_,_,_,Z1⟩
    · have HR:=zid (show append S q r=(T,E) from by rw [HE.out,if_pos hz])
      have hz':=ne_b hz
      clear hz;go_wp2_with fail;obtain ⟨Z3,hZ3,Z4,Z5⟩:=LG.out;rw [hZ3];obtain ⟨⟨s0,s1,s2,s3,s4⟩,s5,s6,s7,s8,s9,s10⟩:=zab Z4;refine bodyPost_ret (v:= .tuple #[zag (.slice a1 n1 c1) (.slice a2 n2 c2) T,.int .i64 E]) (by unfold zag;simp [results,Tryz.results16,go_sem,s0,s1,s2,s3,s4,s5,s6,s7,s8,s9,s10]) rfl ?_;rw [HR.out];exact ⟨_,_,_,_,_,_,rfl,Z5⟩
  · have HE:=zid (show append S q r=put S r from by rw [HEN.out,if_neg hq])
    go_wp2_with fail
    go_meet
    case rel=>exact ⟨S,⟨HE.out,HS.out.mono (by omega),HB.out,HN.out,rfl⟩,_,_,_,_,_,_,TT.out⟩
 case rest=>
  clear k0 k1 k2 k3 k4 k5 k6 k7 k8 k9 k10 r0 r1 r2 r3 r4 r5 r6 r7 r8 r9 r10 kr e0 e1 e2 g0 g1 g2 TT RO2 RF HEN HLA;obtain ⟨T,HQ,a1,n1,c1,a2,n2,c2,T5⟩:=hcut;obtain ⟨HAQ,HBT,HTB,HTN,HTX⟩:=HQ.out;clear HQ;have RP:=zid fun W:World=>zhy r W HOK.out;unfold zbm zix at RP;rw [Rp.fault_zero HOK.out] at RP
  have hsz:(⟨(Rp.putB r).toArray⟩:ByteArray).size<=3000:=by
   rw [zaO];have:=Rp.putB_le r;omega
  have RL:=zid fun (W:World) (h:IsL Rts.SL W (.slice a2 n2 c2) T.g)=>zgj (.slice a1 n1 c1) (.slice a2 n2 c2) T W h HTN HTB;have RA:=fun (W:World) (n:ByteArray) (h:IsL FL W (.slice a1 n1 c1) T.d.f)=>zdq HBT (by omega) n ⟨(Rp.putB r).toArray⟩ hsz h;obtain ⟨⟨D1,E1⟩,hR⟩:∃R,Dp.append T.d (segN (lastG T).b) ⟨(Rp.putB r).toArray⟩=R:=⟨_,rfl⟩;have RN:=fun (W:World) (h:IsL FL W (.slice a1 n1 c1) T.d.f)=>RA W (segN (lastG T).b) h;rw [hR] at RN
  have HPU:=zid (show append S q r=(if E1≠0 then ({T with d:=D1},E1) else ({T with d:=D1,g:=grown T.g (Rp.putB r).length,x:=T.x+1},0)) from by
   rw [HAQ];unfold put;dsimp only
   rw [hR])
  have HPL:=zid (Rp.putB_le r);have HSB:=zid (zaO (Rp.putB r));unfold zag at RL;unfold zac at RN;replace RN:=zid RN;clear hR RA HAQ hsz;generalize hPB:(⟨(Rp.putB r).toArray⟩:ByteArray)=pb at*;generalize hPL:(Rp.putB r).length=pl at*;clear hPB hPL;generalize segN (lastG T).b=nn at*;obtain ⟨e0,e1,e2⟩:=cells3 T5.e;obtain ⟨⟨k0,k1,k2,k3,k4⟩,k5,k6,k7,k8,k9,k10⟩:=zab T5.d;have HTX2:=zid HTX;have HTN2:=zid HTN;have HTB2:=zid HTB;replace HBT:=zid HBT;clear HTX HTN HTB;go_wp2_with fail;refine (RP.out _).mono ?_;rintro e w3 ⟨rfl,b3⟩;have T6:=T5.keep b3;clear b3 T5 k0 k1 k2 k3 k4 k5 k6 k7 k8 k9 k10 e0 e1 e2 RP;obtain ⟨⟨k0,k1,k2,k3,k4⟩,k5,k6,k7,k8,k9,k10⟩:=zab T6.d;have klt:=T6.lt;have TT:=zid T6;clear T6
  have hb0:w.heap.size<w3.heap.size:=by omega
  clear klt;go_upto_region 11 with (fail)
  go_cut [12,13] (fun p e we=>∃t:Nat,p= .pointer (some ⟨t,0,none⟩)/\e= .int .i64 E1/\TdR w w.heap.size (.slice fa fn fc) (.slice (some ⟨gb,goff,none⟩) (m+1) gc) (.slice a1 n1 c1) (.slice a2 n2 c2) (.cells #[.int .i64 r.a,.int .i64 r.t,.string r.d] 46) T D1 t we)
  case first=>
   go_region_held3 (fun W=>(∀b o,b<w3.heap.size->W.cell? ⟨b,o,none⟩=w3.cell? ⟨b,o,none⟩)/\Below w3.heap.size w3 W) (first | with_reducible assumption | with_reducible exact KW.dr _ | with_reducible exact KW.al5 (by assumption) | with_reducible exact KW.al (by assumption) | with_reducible exact KW.ad (KW.start _) | with_reducible exact KW.ad (by assumption) | with_reducible exact KW.st5 (by assumption) (by assumption) | with_reducible exact KW.keep (by assumption) (Below.refl _ _).drew | with_reducible exact KW.keep (by assumption) (by assumption)) (first | (go_at_call 45;refine (RL.out _ (by first | exact TT.out.g.keep (KW.bel (by assumption)) | exact TT.out.g.keep (Below.refl _ _).drew)).mono ?_;rintro e w4 ⟨rfl,b4⟩;have h4:w3.heap.size<=w4.heap.size:=Nat.le_trans (by first | exact Nat.le_refl _ | exact zbc _ _) b4.size;(first | (with_reducible have z4:=hkeep (zaI _ _ _) b4;have y4:w3.heap.size<w4.heap.size:=Nat.lt_of_lt_of_le (zaW _ _) b4.size;have x4:w3.heap.size<=w3.heap.size:=Nat.le_refl _) | skip)) | (go_at_call 44;refine (RN.out _ (by first | exact TT.out.f.keep (KW.bel (by assumption)) | exact TT.out.f.keep (Below.refl _ _).drew)).mono ?_;rintro e w5 ⟨a5,n5,c5,rfl,k5'⟩;have q5:=k5'.w;have s5:=KW.keep (by assumption) q5;have q4:=KW.at (by assumption) q5;(first | (with_reducible have z5:=hkeep (heap_alloc_new _ _) q5) | (with_reducible have z5:=hkeep z4 q5) | skip);(first | (have zc:=zaa z5;have zf:=zad z5;obtain ⟨y0,y1,y2,y3,y4⟩:=zc;obtain ⟨yf0,yf1,yf2,yf3,yf4⟩:=zf) | skip);unfold zac))
   all_goals
    rename_i hh
    clear hh s5;go_wp2_with fail;go_meet
    case rel=>
     first
      | (refine ⟨_,rfl,rfl,?_⟩;with_reducible exact TdR.A TT.out q4 k5')
      | (refine ⟨_,rfl,rfl,?_⟩;with_reducible exact TdR.B TT.out q4 k5' z5 (by assumption) (by first | assumption | simp))
  case rest=>
   clear k0 k1 k2 k3 k4 k5 k6 k7 k8 k9 k10 TT RL RN hb0;obtain ⟨t,rfl,rfl,a7,n7,c7,Y⟩:=hcut;obtain ⟨d0,d1,d2,d3,d4⟩:=zaa Y.d;obtain ⟨⟨k0,k1,k2,k3,k4⟩,k5,k6,k7,k8,k9,k10⟩:=zab Y.y.d;have kf:=zaf Y.y.d;have LY:=zid (Y.y.disk Y.f Y.s Y.k);clear Y
   go_upto_if 68 with (fail)
   obtain ⟨Z,hZ,T7⟩:=LY.out;rw [hZ];clear hZ LY d0 d1 d2 d3 d4 kf k0 k1 k2 k3 k4 k5 k6 k7 k8 k9 k10
   by_cases hz:E1=0
   case neg=>
    have HR:=zid (show append S q r=({T with d:=D1},E1) from by rw [HPU.out,if_pos hz])
    have hz':=ne_b hz;clear hz;obtain ⟨⟨k0,k1,k2,k3,k4⟩,k5,k6,k7,k8,k9,k10⟩:=zab T7.d;obtain ⟨⟨r0,r1,r2,r3,r4⟩,r5,r6,r7,r8,r9,r10⟩:=zab T7.q;have kr:=zaf T7.q;have TF:=zid T7.fin;clear T7;go_wp2_with fail;obtain ⟨Z3,hZ3,Z4,Z5⟩:=TF.out;rw [hZ3];obtain ⟨⟨s0,s1,s2,s3,s4⟩,s5,s6,s7,s8,s9,s10⟩:=zab Z4
    refine bodyPost_ret (v:= .tuple #[zag (.slice a7 n7 c7) (.slice a2 n2 c2) {T with d:=D1},.int .i64 E1]) (by unfold zag;simp [results,Tryz.results16,go_sem,s0,s1,s2,s3,s4,s5,s6,s7,s8,s9,s10]) rfl ?_
    rw [HR.out];exact ⟨_,_,_,_,_,_,rfl,Z5⟩
   subst hz
   have HR:=zid (show append S q r=({T with d:=D1,g:=grown T.g pl,x:=T.x+1},0) from HPU.out)
   clear HPU;have hgl2:=T7.g.len.1;dsimp only at hgl2;have hp2:0<T.g.length:=List.length_pos_iff.2 HTN2.out;obtain ⟨m2,rfl⟩:∃m2,n2=m2+1:=⟨n2-1,by omega⟩;have HM2:=zid hgl2.symm;obtain ⟨gb2,goff2,rfl,_,_,_⟩:=zce T7.g (Nat.lt_succ_self m2);obtain ⟨i0,hi0,hz0,hz1,hz2⟩:=info_parts zfF
   have hm2:m2+1<=1000:=by rw [hgl2];exact HTB2.out.n
   have al0:=(Below.refl Z.heap.size Z).alloc (Nat.le_refl _) (.cells #[] 63);have HNW:=zid (show ∀j u,(Rts.SL.vals T.g)[j]?=some u->(Z.alloc (.cells #[] 63)).cell? ((⟨gb2,goff2,none⟩:Addr).add j)=some u from (T7.g.keep al0).news);have HL1:=zid (show (Rts.SL.vals T.g).length=(m2+1)*3 by rw [Lay.vals_len, <-hgl2];rfl);have HC1:=zid (show ∀u∈Rts.SL.vals T.g,u.oneCell'=true from Rts.SL.vals_cells _);have HLT:=zid (show T.g.getD m2 Rt.zero=lastG T from zlb hgl2.symm);have HLG:=HTB2.out.g (lastG T) (by rw [<-HLT.out,zao (by omega)];exact List.getElem_mem _)
   have hmv:IntKind.i64.wrap (((m2+1:Nat):Int)-1)=(m2:Int):=by
    rw [show ((m2+1:Nat):Int)-1=(m2:Int) from by omega];exact IntWalk.i64_in _ ⟨by omega,by omega⟩
   have hmv2:IntKind.i64.wrap (m2:Int)=(m2:Int):=IntWalk.i64_in _ ⟨by omega,by omega⟩;have TZ:=zid T7;obtain ⟨xs1,hxs⟩:∃xs,Rts.SL.vals T.g=xs:=⟨_,rfl⟩;rw [hxs] at HNW HL1 HC1;have HXS:=zid hxs;obtain ⟨⟨k0,k1,k2,k3,k4⟩,k5,k6,k7,k8,k9,k10⟩:=zab (hkeep T7.d al0);clear T7 hgl2 hp2 al0 hxs
   have HFO:=zid (show ∀v3 w4,w4.ownsRow Z.heap.size 63 3 v3 (0+(m2+1)) ([]++xs1)->(Z.alloc (.cells #[] 63)).grownBy w4 (some Z.heap.size)->∃p cap3,v3= .slice (some ⟨p,0,none⟩) (m2+1) cap3/\Tg w w.heap.size (.slice fa fn fc) (.slice (some ⟨gb,goff,none⟩) (m+1) gc) (.slice a7 n7 c7) p (m2+1) cap3 {T with d:=D1} (w4.setCell ⟨w.heap.size,6,none⟩ (.slice (some ⟨p,0,none⟩) (m2+1) cap3))/\w4.heap[w.heap.size]?=some (.cells #[.slice a7 n7 c7,.int .i64 ({T with d:=D1}:St).d.c,.bool ({T with d:=D1}:St).d.a,.int .i64 ({T with d:=D1}:St).d.l,.bool ({T with d:=D1}:St).d.x,.int .i64 ({T with d:=D1}:St).v,.slice (some ⟨gb2,goff2,none⟩) (m2+1) c2,.int .i64 ({T with d:=D1}:St).x,.int .i64 ({T with d:=D1}:St).s,.int .i64 ({T with d:=D1}:St).z,.int .u32 ({T with d:=D1}:St).c] 31 (0,0)) from fun v3 w4 hown hgrow=>by
    rw [Nat.zero_add,List.nil_append] at hown
    have B3:=((Below.refl Z.heap.size Z).alloc (Nat.le_refl _) (.cells #[] 63)).grown hgrow (by simp) (fun q hq=>by injection hq with hq;omega)
    rcases hown.2 with ⟨_,h0⟩ | ⟨g3,cap3,cur3,rfl,_⟩
    · omega
    · have HO3:OwnL Rts.SL w4 Z.heap.size (.slice (some ⟨g3,0,none⟩) (m2+1) cap3) T.g:=by
       unfold OwnL;rw [HM2.out,HXS.out];exact hown
      exact ⟨g3,cap3,rfl,TZ.out.own B3 HO3,hkeep TZ.out.d B3⟩)
   go_upto_region 16 with (at_builtin;refine wpList_append_own _ rfl _ _ 28 rfl Z.heap.size 63 i0 (.agg #[.int .i64 0,.int .i64 0,.int .i64 0]) 3 24 Tryz.underlying28 hi0 hz0 hz1 hz2 rfl (by decide) _ 0 [] rfl (zbU (heap_alloc_new Z _) (Nat.le_refl _)) ⟨gb2,goff2,none⟩ (m2+1) c2 xs1 rfl HL1.out HNW.out HC1.out (by unfold maxLen;omega) (by omega) (by simp) ?_;intro v3 w4 hown3 hgrow3 hnil3;obtain ⟨g3,cap3,rfl,hTg,hrow⟩:=HFO.out _ _ hown3 hgrow3;have LG:=zid hTg;obtain ⟨⟨u0,u1,u2,u3,u4⟩,u5,u6,u7,u8,u9,u10⟩:=zab hrow;have uf:=zaf hrow;clear hown3 hgrow3 hnil3 hTg hrow)
   clear k0 k1 k2 k3 k4 k5 k6 k7 k8 k9 k10 u0 u1 u2 u3 u4 u5 u6 u7 u8 u9 u10 uf HFO TZ HNW HL1 HC1 hi0 hz0 hz1 hz2;have G1:=LG.out;generalize w4.setCell _ _=W4 at G1 ⊢;clear LG
   have hgm:m2<T.g.length:=by rw [HM2.out];omega
   obtain ⟨⟨k0,k1,k2,k3,k4⟩,k5,k6,k7,k8,k9,k10⟩:=zab G1.d;obtain ⟨g0,g1,g2⟩:=G1.at_ (i:=m2) hgm;have gf:=G1.froz (m2*3+1);dsimp only at g0 g1 g2
   have hTd:({T with d:=D1}:St).g.getD m2 Rt.zero=lastG T:=HLT.out
   rw [HLT.out] at g0 g1 g2;have hLn:=HLG.2.1;have hLz:=HLG.2.2;have hwn:IntKind.i64.wrap ((lastG T).n+1)=(lastG T).n+1:=IntWalk.i64_in _ ⟨by omega,by omega⟩;have LN:=zid (G1.setN (i:=m2) hgm ((lastG T).n+1));clear G1 hTd;go_upto_region 18 with (fail);have G2:=LN.out;generalize W4.setCell _ _=W5 at G2 ⊢;clear LN k0 k1 k2 k3 k4 k5 k6 k7 k8 k9 k10 g0 g1 g2 gf hwn;dsimp only at G2
   have hgm2:m2<(T.g.set m2 ⟨(T.g.getD m2 Rt.zero).b,(lastG T).n+1,(T.g.getD m2 Rt.zero).z⟩).length:=by rw [List.length_set];exact hgm
   have GD:=zid G2.drew;obtain ⟨⟨k0,k1,k2,k3,k4⟩,k5,k6,k7,k8,k9,k10⟩:=zab GD.out.d;obtain ⟨g0,g1,g2⟩:=GD.out.at_ (i:=m2) hgm2;have gf:=GD.out.froz (m2*3+2);dsimp only at g2
   have hset:(T.g.set m2 ⟨(T.g.getD m2 Rt.zero).b,(lastG T).n+1,(T.g.getD m2 Rt.zero).z⟩).getD m2 Rt.zero=⟨(lastG T).b,(lastG T).n+1,(lastG T).z⟩:=by
    rw [HLT.out]
    simp [List.getD_eq_getElem?_getD,hgm]
   rw [hset] at g2;dsimp only at g2;have HZ2:=zid (GD.out.setZ (i:=m2) hgm2 ((lastG T).z+(pl:Int)))
   have hgr:(T.g.set m2 ⟨(T.g.getD m2 Rt.zero).b,(lastG T).n+1,(T.g.getD m2 Rt.zero).z⟩).set m2 ⟨((T.g.set m2 ⟨(T.g.getD m2 Rt.zero).b,(lastG T).n+1,(T.g.getD m2 Rt.zero).z⟩).getD m2 Rt.zero).b,((T.g.set m2 ⟨(T.g.getD m2 Rt.zero).b,(lastG T).n+1,(T.g.getD m2 Rt.zero).z⟩).getD m2 Rt.zero).n,(lastG T).z+(pl:Int)⟩=grown T.g pl:=by
    rw [hset,List.set_set];unfold grown;rw [show T.g.length-1=m2 from by rw [HM2.out];rfl,HLT.out]
   have HPL2:=HPL.out;have HSB2:=HSB.out;have hwz:IntKind.i64.wrap ((lastG T).z+(pl:Int))=(lastG T).z+(pl:Int):=IntWalk.i64_in _ ⟨by omega,by omega⟩;dsimp only at HZ2;rw [hgr] at HZ2
   have hpbz:(pb.size:Int)=(pl:Int):=by omega
   clear hgr hset G2 GD g0 g1
   go_cut [] (fun we=>Tg w w.heap.size (.slice fa fn fc) (.slice (some ⟨gb,goff,none⟩) (m+1) gc) (.slice a7 n7 c7) g3 (m2+1) cap3 {T with d:=D1,g:=grown T.g pl} we)
   case first=>
    go_region
    go_wp2_with fail;go_meet
    case rel=>
     first
      | exact HZ2.out
      | (rw [HSB2] at*;exact HZ2.out)
   case rest=>
    have G3:=hcut;clear k0 k1 k2 k3 k4 k5 k6 k7 k8 k9 k10 g2 gf HZ2;obtain ⟨⟨k0,k1,k2,k3,k4⟩,k5,k6,k7,k8,k9,k10⟩:=zab G3.d;have kf:=zaf G3.d;dsimp only at k0 k1 k2 k3 k4 k5 k6 k7 k8 k9 k10;have hxT:T.x=S.x:=HTX2.out;have hwx:IntKind.i64.wrap (T.x+1)=T.x+1:=IntWalk.i64_in _ ⟨by omega,by omega⟩;have LX:=zid (G3.next (T.x+1));clear G3 hxT;go_upto_region 20 with (fail);have G4:=LX.out;generalize wc.setCell _ _=W6 at G4 ⊢;clear k0 k1 k2 k3 k4 k5 k6 k7 k8 k9 k10 kf LX hwx;dsimp only at G4
    have hgo:∀g∈grown T.g pl,Rts.SL.ok g:=fun g hg=>by
     have hc:g∈T.g\/g=⟨(lastG T).b,(lastG T).n+1,(lastG T).z+(pl:Int)⟩:=by
      unfold grown at hg;rw [show T.g.length-1=m2 from by rw [HM2.out];rfl,HLT.out] at hg;exact List.mem_or_eq_of_mem_set hg
     rcases hc with hc | hc
     · have:=HTB2.out.g g hc
       exact ⟨⟨by omega,by omega⟩,⟨by omega,by omega⟩,⟨by omega,by omega⟩⟩
     · subst hc
       have:=HLG.1
       exact ⟨⟨by show _<=(lastG T).b;omega,by show (lastG T).b<=_;omega⟩,⟨by show _<=(lastG T).n+1;omega,by show (lastG T).n+1<=_;omega⟩,⟨by show _<=(lastG T).z+(pl:Int);omega,by show (lastG T).z+(pl:Int)<=_;omega⟩⟩
    have hgm3:(grown T.g pl).length<=maxLen:=by
     unfold grown;rw [List.length_set,HM2.out];unfold maxLen;omega
    have TF:=zid (G4.fin hgm3 hgo);obtain ⟨⟨k0,k1,k2,k3,k4⟩,k5,k6,k7,k8,k9,k10⟩:=zab G4.d;obtain ⟨⟨r0,r1,r2,r3,r4⟩,r5,r6,r7,r8,r9,r10⟩:=zab G4.q;have kr:=zaf G4.q;dsimp only at k0 k1 k2 k3 k4 k5 k6 k7 k8 k9 k10;clear G4 hgo hgm3;go_wp2_with fail;obtain ⟨Z3,hZ3,Z4,Z5⟩:=TF.out;rw [hZ3];obtain ⟨⟨s0,s1,s2,s3,s4⟩,s5,s6,s7,s8,s9,s10⟩:=zab Z4
    refine bodyPost_ret (v:= .tuple #[zag (.slice a7 n7 c7) (.slice (some ⟨g3,0,none⟩) (m2+1) cap3) {T with d:=D1,g:=grown T.g pl,x:=T.x+1},.int .i64 0]) (by unfold zag;simp [results,Tryz.results16,go_sem,s0,s1,s2,s3,s4,s5,s6,s7,s8,s9,s10]) rfl ?_
    rw [HR.out];exact ⟨_,_,_,_,_,_,rfl,Z5⟩
end Sto
end Go.Proofs.YtgmppfpllogdcaaGreat

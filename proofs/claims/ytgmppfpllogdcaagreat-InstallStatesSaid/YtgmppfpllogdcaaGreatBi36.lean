/-
  Parts of what the laws of this seat stand on:LogInst,LogVia,LogParse,LogLaw,TrmPlay.
-/
import Derived.Test.YtgmppfpllogdcaaGreatBi1
import Derived.Test.YtgmppfpllogdcaaGreatBi3
import Derived.Test.YtgmppfpllogdcaaGreatBi34
import Derived.Test.YtgmppfpllogdcaaGreatBi7
set_option maxRecDepth 100000
set_option maxHeartbeats 6400000
namespace Go.Proofs.YtgmppfpllogdcaaGreat
namespace Lg
open Dp So
variable {q F:Int} {S:St} {s0:List Fp.Pr} {rs:List Rp.Rec}
def instX (S:St) (at_:Int) (L:List UInt8):St:=⟨S.d,S.v+1,[⟨at_,0,0⟩],at_,at_,(L.length:Int),(Cp.sum 0 L:Int)⟩
def undo2 (R:Dk×Int) (n m:ByteArray):Dk×Int:=if R.2=9 then (if (delete R.1 n).2≠0 then delete R.1 n else ((delete (delete R.1 n).1 m).1,if (delete (delete R.1 n).1 m).2=0 then 9 else (delete (delete R.1 n).1 m).2)) else R
def inst1 (S:St) (at_:Int) (L:List UInt8):Dk×Int:=if (create S.d (snapN at_)).2≠0 then create S.d (snapN at_) else undo (Dp.append (create S.d (snapN at_)).1 (snapN at_) ⟨L.toArray⟩) (snapN at_)
def inst2 (S:St) (at_:Int) (L:List UInt8):Dk×Int:=if (inst1 S at_ L).2≠0 then inst1 S at_ L else Dp.sync (inst1 S at_ L).1 (snapN at_)
def inst3 (S:St) (at_:Int) (L:List UInt8):Dk×Int:=if (inst2 S at_ L).2≠0 then inst2 S at_ L else create (inst2 S at_ L).1 (segN at_)
noncomputable def inst4 (S:St) (at_:Int) (L:List UInt8):Dk×Int:=if (inst3 S at_ L).2≠0 then inst3 S at_ L else undo2 (swap (inst3 S at_ L).1 (man (instX S at_ L))) (segN at_) (snapN at_)
def inst5 (S:St) (D:Dk):Dk×Int:=if (delSegs D S.g).2=0/\0<floor S then delete (delSegs D S.g).1 (snapN (floor S)) else delSegs D S.g
noncomputable def installT (S:St) (at_:Int) (L:List UInt8):St×Int:=
 if at_<=S.x\/1099511627776<at_\/Fp.parse L=none then (S,1)
 else if (inst4 S at_ L).2≠0 then ({S with d:=(inst4 S at_ L).1},(inst4 S at_ L).2)
 else ({instX S at_ L with d:=(inst5 S (inst4 S at_ L).1).1},(inst5 S (inst4 S at_ L).1).2)
theorem zea {R:Dk×Int} {n m:ByteArray} (h:R.2≠9):undo2 R n m=R:=if_neg h
theorem zi4 {D0:Dk} {R:Dk×Int} {n m:ByteArray} {E1 E2:Fl} (h9:R.2=9) (hR:Right R.1) (hnm:m≠n) (hn:get D0.f n=none) (hm:get D0.f m=none) (hf:∀x,get R.1.f x=if x=n then some E1 else if x=m then some E2 else get D0.f x):
 Right (undo2 R n m).1/\(((undo2 R n m).2=10/\(undo2 R n m).1.x=true/\∀x,x≠n->x≠m->get (undo2 R n m).1.f x=get D0.f x)\/((undo2 R n m).2=9/\(undo2 R n m).1.x=false/\∀x,get (undo2 R n m).1.f x=get D0.f x)):=by
 unfold undo2;rw [if_pos h9];have r1:=zcL hR n
 rcases zaP hR n with h | ⟨_,h,_⟩ | ⟨_,hD⟩
 · rw [if_pos (by rw [h.e];decide)]
   exact ⟨r1,.inl ⟨h.e,h.x,fun x a b=>by rw [h.f,hf,if_neg a,if_neg b]⟩⟩
 · rw [hf,if_pos rfl] at h;cases h
 rw [if_neg (by rw [hD.e];decide)];have hDf:=hD.f;clear hD;generalize (delete R.1 n).1=E at*;refine ⟨zcL r1 m,?_⟩
 rcases zaP r1 m with h | ⟨_,h,_⟩ | ⟨_,hD⟩
 · rw [if_neg (by rw [h.e];decide)]
   exact .inl ⟨h.e,h.x,fun x a b=>by show get (delete E m).1.f x=_;rw [h.f,hDf,if_neg a,hf,if_neg a,if_neg b]⟩
 · rw [hDf,if_neg hnm,hf,if_neg hnm,if_pos rfl] at h;cases h
 · rw [if_pos hD.e]
   refine .inr ⟨rfl,hD.y,fun x=>?_⟩
   show get (delete E m).1.f x=_;rw [hD.f]
   by_cases e:x=m
   · rw [if_pos e,e,hm]
   · rw [if_neg e,hDf]
     by_cases e2:x=n
     · rw [if_pos e2,e2,hn]
     · rw [if_neg e2,hf,if_neg e2,if_neg e]
theorem one_man {v y z c:Int} (hv:1<=v/\v<1099511627776) (hy:0<y/\y<=1099511627776) (hz:1<=z/\z<=65536) (hc:0<=c/\c<4294967296):Qm.Ok ⟨v+1,[y],z,c⟩:=
 ⟨by show 1<=v+1;omega,by show v+1<=_;omega,by show 1<=[y].length;simp,by show [y].length<=64;simp,fun i hi=>by
  obtain rfl:i=0:=by simpa using hi
  exact ⟨by show 0<=y;omega,hy.2,fun h=>absurd h (by decide)⟩,.inr ⟨by show y≠0;omega,hz⟩,hc⟩
theorem Log.install (h:Log q S F s0 rs) (hq:0<=q) {at_:Int} {l:List Fp.Pr} (hl:Fp.St l) (ha:S.x<at_/\at_<=1099511627776) (hv:S.v<1099511627776):
 (Log q (installT S at_ (Fp.bytes l)).1 F s0 rs/\(((installT S at_ (Fp.bytes l)).2=9/\S.d.x=false/\0<S.d.c/\∀n,get (installT S at_ (Fp.bytes l)).1.d.f n=get S.d.f n)\/((installT S at_ (Fp.bytes l)).2=10/\(installT S at_ (Fp.bytes l)).1.d.x=true))/\(installT S at_ (Fp.bytes l)).1={S with d:=(installT S at_ (Fp.bytes l)).1.d})\/
  (Log q (installT S at_ (Fp.bytes l)).1 at_ l []/\((installT S at_ (Fp.bytes l)).2=0\/((installT S at_ (Fp.bytes l)).2=10/\(installT S at_ (Fp.bytes l)).1.d.x=true))/\(installT S at_ (Fp.bytes l)).1={instX S at_ (Fp.bytes l) with d:=(installT S at_ (Fp.bytes l)).1.d}):=by
 have hf0:=h.f0;have hfx:=h.fx;have hX:=h.x;have hbl:=zg3 hl
 have hcond:¬(at_<=S.x\/1099511627776<at_\/Fp.parse (Fp.bytes l)=none):=by
  rw [Fp.parse_bytes hl];rintro (h | h | h)
  · omega
  · omega
  · cases h
 generalize hLB:Fp.bytes l=L at*
 have hmX:∀D,man {instX S at_ L with d:=D}=man (instX S at_ L):=fun D=>rfl
 have hmo:Qm.Ok (man (instX S at_ L)):=one_man (v:=S.v) (y:=at_) (z:=(L.length:Int)) (c:=(Cp.sum 0 L:Int)) ⟨h.mo.v0,hv⟩ ⟨by omega,ha.2⟩ ⟨by omega,by omega⟩ (by have:=sum_lt L;omega);obtain ⟨b1,b2,b3⟩:=h.bases
 have hnb:∀n,Nms F S.g n->n≠snapN at_:=fun n hn=>by
  rcases hn with rfl | ⟨_,rfl⟩ | ⟨a,ha',rfl⟩
  · exact (zbC (by omega) (by omega)).1.symm
  · intro e
    have:=zdl (by omega) (by omega) (by omega) (by omega) e
    omega
  · have:=b3 a ha'
    exact (zaz (by omega) (by omega) (by omega) (by omega)).symm
 have hng:∀n,Nms F S.g n->n≠segN at_:=fun n hn=>h.not_new (by omega) ha.2 hn;have hnn:∀n,Nms F S.g n->n≠nn:=fun n hn=>h.not_nn hn;have hsn:snapN at_≠nm/\snapN at_≠nn:=zbC (by omega) (by omega);have hgn:segN at_≠nm/\segN at_≠nn:=za2 (by omega) (by omega);have hsg:snapN at_≠segN at_:=zaz (by omega) (by omega) (by omega) (by omega);have hname:Named (snapN at_):=ze1 (by omega) (by omega)
 have old:∀R:Dk×Int,Right R.1->inst4 S at_ L=R->((R.2=9/\S.d.x=false/\R.1.x=false/\0<S.d.c/\∀n,get R.1.f n=get S.d.f n)\/(R.2=10/\R.1.x=true/\∀n,n≠snapN at_->n≠segN at_->n≠nn->get R.1.f n=get S.d.f n))->
  Log q (installT S at_ L).1 F s0 rs/\(((installT S at_ L).2=9/\S.d.x=false/\0<S.d.c/\∀n,get (installT S at_ L).1.d.f n=get S.d.f n)\/((installT S at_ L).2=10/\(installT S at_ L).1.d.x=true))/\(installT S at_ L).1={S with d:=(installT S at_ L).1.d}:=by
  intro R hR h3 he
  have hne:(inst4 S at_ L).2≠0:=by rw [h3];rcases he with ⟨h,_⟩ | ⟨h,_⟩<;>omega
  unfold installT;rw [if_neg hcond,if_pos hne,h3]
  rcases he with ⟨h0,h1,h2,h3,h4⟩ | ⟨h0,h1,h2⟩
  · exact ⟨h.disk hR (fun n _=>h4 n) (fun _ n hn=>by rw [h4] at hn;exact h.cl h1 n hn),.inl ⟨h0,h1,h3,h4⟩,rfl⟩
  · exact ⟨h.dead hR h1 (fun n hn=>h2 n (hnb n hn) (hng n hn) (hnn n hn)),.inr ⟨h0,h1⟩,rfl⟩
 have skip2:∀R,inst1 S at_ L=R->R.2≠0->inst4 S at_ L=R:=fun R h1 h0=>by
  have t2:inst2 S at_ L=R:=by unfold inst2;rw [h1,if_pos h0]
  have t3:inst3 S at_ L=R:=by unfold inst3;rw [t2,if_pos h0]
  unfold inst4;rw [t3,if_pos h0]
 have skip3:∀R,inst2 S at_ L=R->R.2≠0->inst4 S at_ L=R:=fun R t2 h0=>by
  have t3:inst3 S at_ L=R:=by unfold inst3;rw [t2,if_pos h0]
  unfold inst4;rw [t3,if_pos h0]
 have hC1:=zdn h.dr (snapN at_)
 rcases zbn h.dr hname with g1 | ⟨g1,g2,_⟩ | ⟨hg,hC⟩
 · have t1:inst1 S at_ L=create S.d (snapN at_):=by unfold inst1;rw [if_pos (by rw [g1.e];decide)]
   exact .inl (old _ hC1 (skip2 _ t1 (by rw [g1.e];decide)) (.inr ⟨g1.e,g1.x,fun n _ _ _=>by rw [g1.f]⟩))
 · exact absurd rfl (hnb _ (h.cl g1 _ g2))
 have hx:=hC.x;have hCf:=hC.f;have hCy:=hC.y;have hCc:=hC.c
 have t1:inst1 S at_ L=undo (Dp.append (create S.d (snapN at_)).1 (snapN at_) ⟨L.toArray⟩) (snapN at_):=by unfold inst1;rw [if_neg (by rw [hC.e];decide)]
 clear hC;generalize (create S.d (snapN at_)).1=C at*;have hA1:=zeU hC1 (snapN at_) ⟨L.toArray⟩
 rcases zb5 hC1 (snapN at_) ⟨L.toArray⟩ with g1 | ⟨_,g1,_⟩ | ⟨_,g5,g1⟩ | ⟨f,g1,hA⟩
 · rw [zbP (by rw [g1.e];decide)] at t1
   exact .inl (old _ hA1 (skip2 _ t1 (by rw [g1.e];decide)) (.inr ⟨g1.e,g1.x,fun n hn _ _=>by rw [g1.f,hCf,if_neg hn]⟩))
 · rw [hCf,if_pos rfl] at g1;cases g1
 · rw [g1] at t1
   obtain ⟨u1,u2⟩:=zd9 (D0:=S.d) (R:=(C,9)) (n:=snapN at_) rfl hC1 hg hCf
   rw [<-t1] at u1 u2
   have hne:(inst1 S at_ L).2≠0:=by rcases u2 with ⟨a,_⟩ | ⟨a,_⟩<;>rw [a]<;>decide
   rcases u2 with ⟨a1,a2,a3⟩ | ⟨a1,a2,a3⟩
   · exact .inl (old _ u1 (skip2 _ rfl hne) (.inr ⟨a1,a2,fun n hn _ _=>a3 n hn⟩))
   · exact .inl (old _ u1 (skip2 _ rfl hne) (.inl ⟨a1,hx,a2,by omega,a3⟩))
 rw [hCf,if_pos rfl] at g1;obtain rfl:=Option.some.inj g1;rw [zbP (by rw [hA.e];decide)] at t1;have hAf:=hA.f;have hAe:=hA.e;have hAc:=hA.c;clear hA
 have t2:inst2 S at_ L=Dp.sync (Dp.append C (snapN at_) ⟨L.toArray⟩).1 (snapN at_):=by unfold inst2;rw [t1,if_neg (by rw [hAe];decide)]
 generalize (Dp.append C (snapN at_) ⟨L.toArray⟩).1=A at*;have hS1:=zeT hA1 (snapN at_)
 rcases zcd hA1 (snapN at_) with g1 | ⟨_,g1,_⟩ | ⟨f,g1,hSy⟩
 · exact .inl (old _ hS1 (skip3 _ t2 (by rw [g1.e];decide)) (.inr ⟨g1.e,g1.x,fun n hn _ _=>by rw [g1.f,hAf,if_neg hn,hCf,if_neg hn]⟩))
 · rw [hAf,if_pos rfl] at g1;cases g1
 rw [hAf,if_pos rfl] at g1;obtain rfl:=Option.some.inj g1;have hSf:=hSy.f;have hSe:=hSy.e;have hSyy:=hSy.y;have hSc:=hSy.c;clear hSy
 have t3:inst3 S at_ L=create (Dp.sync A (snapN at_)).1 (segN at_):=by unfold inst3;rw [t2,if_neg (by rw [hSe];decide)]
 generalize (Dp.sync A (snapN at_)).1=B at*
 have hB:∀m,get B.f m=if m=snapN at_ then some ⟨snapN at_,(⟨#[]⟩:ByteArray)++⟨L.toArray⟩,(((⟨#[]⟩:ByteArray)++⟨L.toArray⟩:ByteArray).size:Int)⟩ else get S.d.f m:=fun m=>by
  rw [hSf]
  by_cases e:m=snapN at_
  · rw [if_pos e,if_pos e]
  · rw [if_neg e,if_neg e,hAf,if_neg e,hCf,if_neg e]
 have hG1:=zdn hS1 (segN at_)
 have hgnone:get S.d.f (segN at_)=none:=by
  rcases hh:get S.d.f (segN at_) with _ | f
  · rfl
  · exact absurd rfl (hng _ (h.cl hx _ (by rw [hh];simp)))
 rcases zbn hS1 (zdD (show 0<=at_ by omega) ha.2) with g1 | ⟨_,g2,_⟩ | ⟨_,hG⟩
 · have t4:inst4 S at_ L=create B (segN at_):=by unfold inst4;rw [t3,if_pos (by rw [g1.e];decide)]
   exact .inl (old _ hG1 t4 (.inr ⟨g1.e,g1.x,fun n hn _ _=>by rw [g1.f,hB,if_neg hn]⟩))
 · rw [hB,if_neg hsg.symm,hgnone] at g2
   exact absurd rfl g2
 have hGf:=hG.f;have hGe:=hG.e;have hGy:=hG.y;have hGc:=hG.c;clear hG
 have t4:inst4 S at_ L=undo2 (swap (create B (segN at_)).1 (man (instX S at_ L))) (segN at_) (snapN at_):=by unfold inst4;rw [t3,if_neg (by rw [hGe];decide)]
 generalize (create B (segN at_)).1=Y at*
 have hYf:∀m,get Y.f m=if m=segN at_ then some ⟨segN at_,⟨#[]⟩,0⟩ else if m=snapN at_ then some ⟨snapN at_,(⟨#[]⟩:ByteArray)++⟨L.toArray⟩,(((⟨#[]⟩:ByteArray)++⟨L.toArray⟩:ByteArray).size:Int)⟩ else get S.d.f m:=fun m=>by
  rw [hGf]
  by_cases e:m=segN at_
  · rw [if_pos e,if_pos e]
  · rw [if_neg e,if_neg e,hB]
 have hyn:Y.x=false->get Y.f nn=none:=fun _=>by
  rw [hYf,if_neg hgn.2.symm,if_neg hsn.2.symm]
  rcases hh:get S.d.f nn with _ | f
  · rfl
  · exact absurd rfl (hnn nn (h.cl hx nn (by rw [hh];simp)))
 obtain ⟨hW1,_⟩:=zdk hG1 (man (instX S at_ L))
 rcases zcX hG1 hmo hyn with g1 | ⟨_,g2,_,g4,g5⟩ | hW
 · rw [zea (by rw [g1.e];decide)] at t4
   exact .inl (old _ hW1 t4 (.inr ⟨g1.e,g1.x,fun n a b c=>by rw [g1.f n c,hYf,if_neg b,if_neg a]⟩))
 · obtain ⟨u1,u2⟩:=zi4 (D0:=S.d) (n:=segN at_) (m:=snapN at_) g2 hW1 hsg hgnone hg (fun m=>(g4 m).trans (hYf m))
   rw [<-t4] at u1 u2
   rcases u2 with ⟨a1,a2,a3⟩ | ⟨a1,a2,a3⟩
   · exact .inl (old _ u1 rfl (.inr ⟨a1,a2,fun n a b _=>a3 n b a⟩))
   · exact .inl (old _ u1 rfl (.inl ⟨a1,hx,a2,by omega,a3⟩))
 right
 have hWe:=hW.e;have hWf:=hW.f;have hWy:=hW.y;clear hW;rw [zea (by rw [hWe];decide)] at t4;generalize (swap Y (man (instX S at_ L)))=W at*
 have hKe:installT S at_ L=({instX S at_ L with d:=(inst5 S W.1).1},(inst5 S W.1).2):=by
  unfold installT;rw [if_neg hcond,t4,if_neg (by rw [hWe];decide)]
 rw [hKe]
 have hWg:∀m,m≠nm->m≠segN at_->m≠snapN at_->get W.1.f m=get S.d.f m:=fun m a b c=>by rw [hWf,if_neg a,hYf,if_neg b,if_neg c]
 have hsegW:∀a∈S.g,get W.1.f (segN a.b)=get S.d.f (segN a.b):=fun a ha'=>by
  have:=b3 a ha';exact hWg _ (za2 (by omega) (by omega)).1 (hng _ (.inr (.inr ⟨a,ha',rfl⟩))) (hnb _ (.inr (.inr ⟨a,ha',rfl⟩)))
 have hN:∀n,Nms at_ [⟨at_,0,0⟩] n↔n=nm\/n=snapN at_\/n=segN at_:=fun n=>by
  unfold Nms
  constructor
  · rintro (h | ⟨_,h⟩ | ⟨a,h1,h2⟩)
    · exact .inl h
    · exact .inr (.inl h)
    · rw [List.mem_singleton] at h1
      rw [h1] at h2
      exact .inr (.inr h2)
  · rintro (h | h | h)
    · exact .inl h
    · exact .inr (.inl ⟨by omega,h⟩)
    · exact .inr (.inr ⟨_,List.mem_singleton.2 rfl,h⟩)
 have new:∀D:Dk,Right D->(∀n,Nms at_ [⟨at_,0,0⟩] n->get D.f n=get W.1.f n)->(D.x=false->∀n,get D.f n≠none->Nms at_ [⟨at_,0,0⟩] n)->
  Log q {instX S at_ L with d:=D} at_ l []:=by
  intro D hR hf hc;refine ⟨hR,by simp,trivial,rfl,?_,by omega,ha.2,by rw [hmX];exact hmo,⟨[],[],[],rfl,rfl,rfl,?_,rfl,⟨⟨segN at_,⟨#[]⟩,0⟩,?_,rfl,?_⟩,rfl,?_⟩,Int.le_refl _,Int.le_refl _,.inr ⟨by omega,hl,by rw [hLB];rfl,by rw [hLB];rfl,?_⟩,?_,hc⟩
  · show at_=at_+0
    omega
  · show at_=at_+0
    omega
  · show get D.f (segN at_)=_
    rw [hf _ ((hN _).2 (.inr (.inr rfl))),hWf,if_neg hgn.1,hYf,if_pos rfl]
  · rw [List.take_nil];exact Int.le_refl _
  · show (0:Int)<=_
    omega
  · refine ⟨_,(hf _ ((hN _).2 (.inr (.inl rfl)))).trans ((hWf _).trans ((if_neg hsn.1).trans ((hYf _).trans ((if_neg hsg).trans (if_pos rfl))))),?_,rfl⟩
    rw [hLB]
    simp
  · rw [hmX]
    exact ⟨_,(hf nm (.inl rfl)).trans ((hWf nm).trans (if_pos rfl)),rfl,rfl⟩
 have hb2:∀a∈S.g,0<=a.b/\a.b<=1099511627776:=fun a ha'=>by
  have:=b3 a ha';omega
 have hdel:∀n,Nms at_ [⟨at_,0,0⟩] n->∀a∈S.g,n≠segN a.b:=fun n hn a ha'=>by
  have h2:=hb2 a ha';have h3:=b3 a ha'
  rcases (hN n).1 hn with rfl | rfl | rfl
  · exact (za2 (by omega) (by omega)).1.symm
  · exact zaz (by omega) (by omega) (by omega) (by omega)
  · intro e
    have:=zcw (by omega) (by omega) (by omega) (by omega) e
    omega
 have hpair:S.g.Pairwise (fun a b=>a.b<b.b)/\∀a∈S.g,get W.1.f (segN a.b)≠none:=by
  obtain ⟨t,l,r,e1,e2,e3,e4,e5,e6,e7,e8⟩:=h.seg;refine ⟨?_,fun a ha'=>?_⟩
  · rw [e1,List.pairwise_append]
    refine ⟨e3.pair,by simp,fun a ha' b hb=>?_⟩
    rw [List.mem_singleton] at hb;have:=e3.bases a ha';rw [hb];omega
  · rw [hsegW a ha']
    rw [e1] at ha'
    rcases List.mem_append.1 ha' with ha' | ha'
    · exact e3.there a ha'
    · rw [List.mem_singleton] at ha'
      rw [ha']
      exact h.has_last
 obtain ⟨u1,u2⟩:=zcE S.g hW1 hWy hpair.1 hb2 hpair.2
 have clean:∀D:Dk,(∀n,(∀a∈S.g,n≠segN a.b)->n≠snapN F->get D.f n=get W.1.f n)->(∀a∈S.g,get D.f (segN a.b)=none)->(0<F->get D.f (snapN F)=none)->(F<=0->∀n,(∀a∈S.g,n≠segN a.b)->get D.f n=get W.1.f n)->∀n,get D.f n≠none->Nms at_ [⟨at_,0,0⟩] n:=by
  intro D d1 d2 d3 d4 n hn
  by_cases ed:∃a∈S.g,n=segN a.b
  · obtain ⟨a,ha',rfl⟩:=ed
    exact absurd (d2 a ha') hn
  have hna:∀a∈S.g,n≠segN a.b:=fun a ha' e=>ed ⟨a,ha',e⟩
  have hgW:get W.1.f n≠none/\¬(0<F/\n=snapN F):=by
   by_cases hF:0<F
   · have en:n≠snapN F:=fun e=>by rw [e] at hn;exact absurd (d3 hF) hn
     rw [d1 n hna en] at hn
     exact ⟨hn,fun h=>en h.2⟩
   · rw [d4 (by omega) n hna] at hn
     exact ⟨hn,fun h=>hF h.1⟩
  by_cases e1:n=nm
  · exact .inl e1
  by_cases e2:n=snapN at_
  · exact (hN n).2 (.inr (.inl e2))
  by_cases e3:n=segN at_
  · exact (hN n).2 (.inr (.inr e3))
  rw [hWg n e1 e3 e2] at hgW
  rcases h.cl hx n hgW.1 with h1 | h1 | ⟨a,ha',h1⟩
  · exact .inl h1
  · exact absurd h1 hgW.2
  · exact absurd ⟨a,ha',h1⟩ ed
 rcases u2 with ⟨a1,a2,a3⟩ | ⟨a1,a2,a3,a4⟩
 · have e4:inst5 S W.1=delSegs W.1 S.g:=by unfold inst5;rw [if_neg fun h=>by rw [a1] at h;exact absurd h.1 (by decide)]
   rw [e4]
   exact ⟨new _ u1 (fun n hn=>a3 n (hdel n hn)) (fun e=>by rw [a2] at e;cases e),.inr ⟨a1,a2⟩,rfl⟩
 by_cases hF0:0<F
 · have e4:inst5 S W.1=delete (delSegs W.1 S.g).1 (snapN F):=by unfold inst5;rw [h.fl,if_pos ⟨a1,hF0⟩]
   rw [e4]
   generalize (delSegs W.1 S.g).1=V at*;have hR:=zcL u1 (snapN F)
   have hns:∀n,Nms at_ [⟨at_,0,0⟩] n->n≠snapN F:=fun n hn=>by
    rcases (hN n).1 hn with rfl | rfl | rfl
    · exact (zbC (by omega) (by omega)).1.symm
    · intro e
      have:=zdl (by omega) (by omega) (by omega) (by omega) e
      omega
    · exact (zaz (by omega) (by omega) (by omega) (by omega)).symm
   rcases zaP u1 (snapN F) with g | ⟨_,g,_⟩ | ⟨_,hD⟩
   · exact ⟨new _ hR (fun n hn=>by rw [g.f];exact a3 n (hdel n hn)) (fun e=>by rw [g.x] at e;cases e),.inr ⟨g.e,g.x⟩,rfl⟩
   · exfalso
     rw [a3 _ fun a ha'=>by have:=hb2 a ha';exact zaz (by omega) (by omega) (by omega) (by omega)] at g
     rw [hWg _ (zbC (by omega) (by omega)).1 (hng _ (.inr (.inl ⟨hF0,rfl⟩))) (hnb _ (.inr (.inl ⟨hF0,rfl⟩)))] at g
     rcases h.sn with ⟨h1,_⟩ | ⟨_,_,_,_,f,h2,_⟩
     · omega
     · rw [h2] at g;cases g
   · refine ⟨new _ hR (fun n hn=>by rw [hD.f,if_neg (hns n hn)];exact a3 n (hdel n hn)) (fun _=>clean _ (fun n h1 h2=>by rw [hD.f,if_neg h2];exact a3 n h1) (fun a ha'=>?_) (fun _=>by rw [hD.f,if_pos rfl]) (fun h=>by omega)),.inl hD.e,rfl⟩
     have:=hb2 a ha'
     rw [hD.f,if_neg (zaz (by omega) (by omega) (by omega) (by omega)).symm];exact a4 a ha'
 · have e4:inst5 S W.1=delSegs W.1 S.g:=by unfold inst5;rw [h.fl,if_neg fun h=>hF0 h.2]
   rw [e4]
   exact ⟨new _ u1 (fun n hn=>a3 n (hdel n hn)) (fun _=>clean _ (fun n h1 _=>a3 n h1) a4 (fun h=>absurd h hF0) (fun _=>a3)),.inl a1,rfl⟩
structure Via (D E:Dk):Prop where
 c:E.c=D.c
 k:D.a=false->D.x=false->E.a=false/\E.x=false/\E.l=D.l
theorem Via.refl (D:Dk):Via D D:=⟨rfl,fun a x=>⟨a,x,rfl⟩⟩
theorem Via.trans {D E G:Dk} (h:Via D E) (k:Via E G):Via D G:=⟨k.c.trans h.c,fun a x=>by
 obtain ⟨h1,h2,h3⟩:=h.k a x;obtain ⟨k1,k2,k3⟩:=k.k h1 h2
 exact ⟨k1,k2,k3.trans h3⟩⟩
theorem zaZ (D:Dk) (l:List Fl) (own:Int):Via D (change D l own).1:=by
 rcases zaQ D l own with ⟨e,h⟩ | ⟨e,h1,h2⟩ | ⟨e,h0,h1,h2,_⟩ | ⟨e,h0,h1,h2,_⟩ | ⟨e,h0,h1,_⟩
 all_goals rw [e]
 · exact Via.refl D
 · exact Via.refl D
 · exact ⟨rfl,fun a=>by rw [h2] at a;cases a⟩
 · exact ⟨rfl,fun a=>by rw [h2] at a;cases a⟩
 · exact ⟨rfl,fun a x=>⟨a,x,rfl⟩⟩
theorem zbu (D:Dk) (n:ByteArray):Via D (create D n).1:=by
 unfold create
 split
 · exact zaZ _ _ _
 · split<;>exact zaZ _ _ _
theorem zeP (D:Dk) (n s:ByteArray):Via D (Dp.append D n s).1:=by
 unfold Dp.append
 split
 · exact zaZ _ _ _
 · split<;>exact zaZ _ _ _
theorem via_sync (D:Dk) (n:ByteArray):Via D (Dp.sync D n).1:=by
 unfold Dp.sync
 split<;>exact zaZ _ _ _
theorem via_cut (D:Dk) (n:ByteArray) (k:Int):Via D (cut D n k).1:=by
 unfold cut
 split
 · exact zaZ _ _ _
 · split<;>exact zaZ _ _ _
theorem zi1 (D:Dk) (n m:ByteArray):Via D (rename D n m).1:=by
 unfold rename
 split
 · exact zaZ _ _ _
 · split<;>exact zaZ _ _ _
theorem zaN (D:Dk) (n:ByteArray):Via D (delete D n).1:=by
 unfold delete
 split<;>exact zaZ _ _ _
theorem zfR (D:Dk) (s:ByteArray):Via D (swapS D s).1:=by
 have h1:=zbu D nn;have h2:=h1.trans (zeP (create D nn).1 nn s);have h3:=h2.trans (via_sync (Dp.append (create D nn).1 nn s).1 nn);unfold swapS
 split
 · exact h1
 split
 · exact h2.trans (zaN _ nn)
 split
 · exact h2
 split
 · exact h3
 · exact h3.trans (zi1 _ nn nm)
theorem zfk (D:Dk) (m:Qm.Mn):Via D (swap D m).1:=by
 unfold swap
 split
 · exact Via.refl D
 split
 · split
   · exact zaN D nn
   · exact (zaN D nn).trans (zfR _ _)
 · exact zfR D _
theorem via_undo (R:Dk×Int) (n:ByteArray):Via R.1 (undo R n).1:=by
 unfold undo
 split
 · exact zaN _ _
 · exact Via.refl _
theorem zj1 (R:Dk×Int) (n m:ByteArray):Via R.1 (undo2 R n m).1:=by
 unfold undo2
 split
 · split
   · exact zaN _ _
   · exact (zaN _ n).trans (zaN _ m)
 · exact Via.refl _
theorem zc7:∀(t:List Rt.Sg) (D:Dk),Via D (delSegs D t).1
 | [],D=>Via.refl D
 | g::t,D=>by
  unfold delSegs
  split
  · exact zaN _ _
  · exact (zaN D (segN g.b)).trans (zc7 t _)
theorem zca (use:List ByteArray):∀(ns:List ByteArray) (D:Dk),Via D (sweepT use D ns).1
 | [],D=>Via.refl D
 | n::t,D=>by
  unfold sweepT
  split
  · exact zca use t D
  split
  · exact zaN _ _
  · exact (zaN D n).trans (zca use t _)
theorem zid_ (D:Dk) (n:ByteArray) (w:Nat):Via D (cutT D n w).1:=by
 unfold cutT
 split
 · exact via_cut _ _ _
 · exact Via.refl D
theorem zic (D:Dk) (n:ByteArray) (w:Nat):Via D (endT D n w).1:=by
 unfold endT
 split
 · exact zid_ D n w
 · exact (zid_ D n w).trans (via_sync _ n)
theorem zj3 (D:Dk) (m:Qm.Mn):Via D (zjB D m).1.d:=by
 unfold zjB
 split
 · exact Via.refl D
 · dsimp only
   have h1:Via D (sweep D (useT m)).1:=zca _ _ D
   split
   · exact h1
   split
   · exact h1.trans (zic _ _ _)
   · exact h1.trans (zic _ _ _)
theorem zhf (D:Dk):Via D (zal D).1.d:=by
 unfold zal
 split
 · exact zbu _ _
 dsimp only
 split
 · exact (zbu D (segN 0)).trans (zfk _ _)
 · exact (zbu D (segN 0)).trans (zfk _ _)
theorem zj2 (D:Dk):Via D (openT D).1.d:=by
 unfold openT
 split
 · exact Via.refl D
 split
 · split
   · exact zca _ _ D
   · exact (zca _ _ D).trans (zhf _)
 · split
   · exact Via.refl D
   · exact zj3 D _
theorem via_install (S:St) (at_:Int) (L:List UInt8):Via S.d (installT S at_ L).1.d:=by
 have h1:Via S.d (inst1 S at_ L).1:=by
  unfold inst1
  split
  · exact zbu _ _
  · exact (zbu S.d (snapN at_)).trans ((zeP _ _ _).trans (via_undo _ _))
 have h2:Via S.d (inst2 S at_ L).1:=by
  unfold inst2
  split
  · exact h1
  · exact h1.trans (via_sync _ _)
 have h3:Via S.d (inst3 S at_ L).1:=by
  unfold inst3
  split
  · exact h2
  · exact h2.trans (zbu _ _)
 have h4:Via S.d (inst4 S at_ L).1:=by
  unfold inst4
  split
  · exact h3
  · exact h3.trans ((zfk _ _).trans (zj1 _ _ _))
 unfold installT
 split
 · exact Via.refl _
 split
 · exact h4
 · refine h4.trans ?_
   show Via _ (inst5 S _).1
   unfold inst5
   split
   · exact (zc7 S.g _).trans (zaN _ _)
   · exact zc7 S.g _
end Lg
namespace Fp
theorem zkS {l:List UInt8} {p:Pr} {j:Nat} (h:pairAt l=some (p,j)):l.take j=one p:=by
 cases l with
 | nil=>simp [pairAt] at h
 | cons k r=>
  simp only [pairAt] at h
  rcases ht:Vp.take r with _ | ⟨n,i⟩
  · rw [ht] at h;cases h
  · rw [ht] at h
    simp only at h
    split at h
    · cases h
    · rename_i hl
      have e:=Option.some.inj h
      have e1:=congrArg Prod.fst e;have e2:=congrArg Prod.snd e
      simp only at e1 e2
      subst e1 e2
      have hsz:((⟨((r.drop i).take n).toArray⟩:ByteArray)).size=n:=by
       show ((r.drop i).take n).toArray.size=n
       simp
       omega
      unfold one;dsimp only;rw [hsz,Vp.put_take ht,show 1+i+n=(i+n)+1 from by omega,List.take_succ_cons,List.take_add]
theorem run_eq (L:List UInt8):∀(n:Nat) (acc:List Pr) (i:Nat) (ps:List Pr) (j:Nat),i<=L.length->run n L acc i=some (ps,j)->∃qs,ps=acc++qs/\qs.length=n/\j<=L.length/\L.take j=L.take i++flat qs
 | 0,acc,i,ps,j,hi,h=>by
  have e:=Option.some.inj h;have e1:=congrArg Prod.fst e;have e2:=congrArg Prod.snd e
  simp only at e1 e2
  subst e1 e2;exact ⟨[],by simp,rfl,hi,by simp [flat]⟩
 | n+1,acc,i,ps,j,hi,h=>by
  rw [run] at h
  rcases hp:pairAt (L.drop i) with _ | ⟨p,k⟩
  · rw [hp] at h;cases h
  · rw [hp] at h
    simp only at h
    obtain ⟨k1,k2,_⟩:=pairAt_len hp;rw [List.length_drop] at k2;obtain ⟨qs,q1,q2,q3,q4⟩:=run_eq L n _ _ _ _ (by omega) h;refine ⟨p::qs,by rw [q1];simp,by rw [List.length_cons,q2],q3,?_⟩;rw [q4,List.take_add,zkS hp,zey,List.append_assoc]
theorem parse_eq {L:List UInt8} {l:List Pr} (h:parse L=some l):L=bytes l:=by
 unfold parse at h
 rcases ht:Vp.take L with _ | ⟨n,j⟩
 · rw [ht] at h;cases h
 · rw [ht] at h
   simp only at h
   split at h
   · cases h
   · rcases hr:run n L [] j with _ | ⟨ps,i⟩
     · rw [hr] at h;cases h
     · rw [hr] at h
       simp only at h
       split at h
       · rename_i h1
         obtain rfl:=Option.some.inj h
         obtain ⟨_,_,j3,_⟩:=Vp.take_some ht;obtain ⟨qs,q1,q2,q3,q4⟩:=run_eq L n _ _ _ _ j3 hr;rw [List.nil_append] at q1;subst q1;rw [h1.1,List.take_length, <-Vp.put_take ht] at q4;unfold bytes;rw [q2];exact q4
       · cases h
end Fp
namespace Lg
open Dp So
variable {q F:Int} {S:St} {s0:List Fp.Pr} {rs:List Rp.Rec}
noncomputable def pickN (l:List Rt.Sg) (keep count:Int):Nat:=Classical.choose (Rt.pick_some l keep count)
theorem pickN_is (l:List Rt.Sg) (keep count:Int):Rt.IsPick l keep count (pickN l keep count):=Classical.choose_spec (Rt.pick_some l keep count)
noncomputable def trimT (S:St) (keep count:Int):St×Int:=trimK S (pickN S.g keep count)
theorem Log.ne (h:Log q S F s0 rs):S.g≠[]:=by
 intro e;have:=h.last_mem;rw [e] at this
 cases this
theorem Log.trim_law (h:Log q S F s0 rs) (hv:S.v<1099511627776) (keep count:Int):
 ∃m:Nat,m<=rs.length/\Log q (trimT S keep count).1 (F+m) (Fp.fold s0 ((rs.take m).map fun r=>r.d)) (rs.drop m)/\(trimT S keep count).1.x=S.x/\(trimT S keep count).1.s=S.s/\
  ((trimT S keep count).2=0\/(trimT S keep count).2=9\/(trimT S keep count).2=10)/\S.v<=(trimT S keep count).1.v/\(trimT S keep count).1.v<=S.v+1/\
  ((trimT S keep count).2=0->pickN (trimT S keep count).1.g keep count=0):=by
 have hp:=pickN_is S.g keep count;have hne:=List.length_pos_iff.2 h.ne
 have zero:Log q S (F+(0:Nat)) (Fp.fold s0 ((rs.take 0).map fun r=>r.d)) (rs.drop 0):=by
  rw [List.take_zero,List.drop_zero]
  simpa [Fp.fold] using h
 unfold trimT
 rcases Nat.eq_zero_or_pos (pickN S.g keep count) with h0 | h0
 · have e:trimK S (pickN S.g keep count)=(S,0):=by unfold trimK;rw [if_pos h0]
   rw [e]
   exact ⟨0,Nat.zero_le _,zero,rfl,rfl,.inl rfl,Int.le_refl _,by show S.v<=_;omega,fun _=>h0⟩
 · obtain ⟨m,m1,m2,m3,m4⟩:=h.trim h0 (hp.lt.2 hne) hv
   rcases m4 with ⟨a1,a2,a3⟩ | ⟨a1,a2,a3⟩
   · refine ⟨0,Nat.zero_le _,?_,by rw [a3],by rw [a3],?_,by rw [a3];exact Int.le_refl _,by rw [a3];show S.v<=_;omega,fun e=>?_⟩
     · rw [List.take_zero,List.drop_zero]
       simpa [Fp.fold] using a1
     · rcases a2 with a2 | ⟨a2,_⟩
       · exact .inr (.inl a2)
       · exact .inr (.inr a2)
     · rcases a2 with a2 | ⟨a2,_⟩<;>rw [a2] at e<;>cases e
   · refine ⟨m,m2,a1,by rw [a3];rfl,by rw [a3];rfl,?_,by rw [a3];show S.v<=S.v+1;omega,by rw [a3];exact Int.le_refl _,fun _=>?_⟩
     · rcases a2 with a2 | ⟨a2,_⟩
       · exact .inl a2
       · exact .inr (.inr a2)
     · rw [a3]
       show pickN (S.g.drop _) keep count=0
       exact (pickN_is _ _ _).one hp.again
structure Pa where
 k:Int
 n:Int
 m:Int
 d:ByteArray
noncomputable def playA (q i:Int) (S:St) (a:Pa):St:=
 if a.k=1 then (zat S).1 else if a.k=2 then (trimT S a.n a.m).1 else if a.k=3 then {S with d:=arm S.d a.n} else if a.k=4 then {S with d:=limit S.d a.n} else (So.append S q ⟨S.x,i,a.d⟩).1
theorem Log.play (h:Log q S F s0 rs) (hq:0<q) (hv:S.v<1099511627776) (i:Int) (a:Pa):(∃F' s0' rs',Log q (playA q i S a) F' s0' rs')/\(playA q i S a).v<=S.v+1:=by
 unfold playA
 split
 · exact ⟨⟨_,_,_,h.sync.1⟩,by show S.v<=_;omega⟩
 split
 · obtain ⟨m,_,m2,_,_,_,_,m3,_⟩:=h.trim_law hv a.n a.m
   exact ⟨⟨_,_,_,m2⟩,m3⟩
 split
 · exact ⟨⟨_,_,_,h.arm a.n⟩,by show S.v<=_;omega⟩
 split
 · exact ⟨⟨_,_,_,h.limit a.n⟩,by show S.v<=_;omega⟩
 · obtain ⟨_,h2,h3⟩:=h.append hq hv ⟨S.x,i,a.d⟩
   rcases h3 with ⟨_,_,_,h3⟩ | ⟨_,h3,_⟩
   · exact ⟨⟨_,_,_,h3⟩,h2⟩
   · exact ⟨⟨_,_,_,h3⟩,h2⟩
noncomputable def playL (q:Int) (l:List Pa) (n:Nat):St:=(List.range n).foldl (fun S (i:Nat)=>playA q i S (l.getD i ⟨0,0,0,⟨#[]⟩⟩)) (zal empty).1
theorem playL_succ (q:Int) (l:List Pa) (n:Nat):playL q l (n+1)=playA q n (playL q l n) (l.getD n ⟨0,0,0,⟨#[]⟩⟩):=by
 unfold playL;rw [List.range_succ,List.foldl_append]
 rfl
theorem Img.calm {D:Dk} {m:Qm.Mn} {t:List Rt.Sg} {l r:List Rp.Rec} {rest:List UInt8} (h:Img q D m F s0 t l r rest) (hx:D.x=false) (ha:D.a=false):
 (openT D).2=0/\(openT D).1=zjA (openT D).1.d m F t l r/\Log q (openT D).1 F s0 (l++r)/\Img q (openT D).1.d m F s0 t l r []/\(openT D).1.d.x=false/\
  ∀n,get (openT D).1.d.f n=if n=segN (F+(l.length:Int)) then some ⟨n,⟨(Rp.rowB r).toArray⟩,((Rp.rowB r).length:Int)⟩ else if n∈useT m then get D.f n else none:=by
 rcases h.open_ hx with h1 | ⟨_,_,h2,_⟩
 · exact h1
 · have:=((zj2 D).k ha hx).2.1
   rw [h2] at this
   cases this
theorem Log.sure (h:Log q S F s0 rs) (keep:List Int):(openT (Dp.crash S.d keep)).2=0/\∃n:Nat,n<=rs.length/\S.s<=F+n/\Log q (openT (Dp.crash S.d keep)).1 F s0 (rs.take n)/\(openT (Dp.crash S.d keep)).1.s=(openT (Dp.crash S.d keep)).1.x:=by
 obtain ⟨t,l,r,rest,h1,h2,h3,h4⟩:=h.crash keep;obtain ⟨c1,c2,c3,_⟩:=h1.calm rfl rfl;rw [h2] at c3;exact ⟨c1,_,h3,h4,c3,by rw [c2];rfl⟩
theorem ziI (c:UInt8):∀l:List Fp.Pr,(Fp.lo c l).length+(Fp.hi c l).length<=l.length
 | []=>Nat.le_refl _
 | p::l=>by
  have ih:=ziI c l;unfold Fp.lo Fp.hi at ih ⊢;rw [List.filter_cons,List.filter_cons,List.length_cons]
  by_cases h1:p.k.toNat<c.toNat
  · have h2:¬c.toNat<p.k.toNat:=by omega
    rw [if_pos (decide_eq_true h1),if_neg (by simpa using h2),List.length_cons]
    omega
  · rw [if_neg (by simpa using h1)]
    split
    · rw [List.length_cons];omega
    · omega
theorem step_len (l:List Fp.Pr) (s:ByteArray):(Fp.step l s).length<=l.length+1:=by
 unfold Fp.step
 split
 · omega
 · have h:=ziI (Fp.key s) l
   have h2:(Fp.mid s).length<=1:=by unfold Fp.mid;split<;>simp
   rw [List.length_append,List.length_append];omega
theorem zfH:∀(ss:List ByteArray) (l:List Fp.Pr),(Fp.fold l ss).length<=l.length+ss.length
 | [],l=>Nat.le_refl _
 | s::ss,l=>by
  have h1:=zfH ss (Fp.step l s);have h2:=step_len l s;have e:Fp.fold l (s::ss)=Fp.fold (Fp.step l s) ss:=rfl;rw [e,List.length_cons];omega
theorem zlK {l:List Fp.Pr} (h:Fp.St l) (hn:l.length<=40):fewP l=true/\(Fp.bytes l).length<=3000:=by
 refine ⟨fewP_yes (by omega) fun i hi=>?_,?_⟩
 · have:=(h.1 _ (List.getElem_mem hi)).2
   rw [List.getD_eq_getElem?_getD,List.getElem?_eq_getElem hi,Option.getD_some]
   omega
 · have h1:=Fp.flat_len l 63 fun p hp=>(h.1 p hp).2
   have h3:=Vp.put_len_le l.length
   have h5:l.length*(10+63)<=40*73:=Nat.mul_le_mul hn (Nat.le_refl _);unfold Fp.bytes;rw [List.length_append];omega
variable {q F:Int} {S:St} {s0:List Fp.Pr} {rs:List Rp.Rec}
theorem Log.few (h:Log q S F s0 rs) {n:Nat} (hn:s0.length+rs.length<=n) (h40:n<=40) {k:Nat} (hk:k<=rs.length):Fp.St (stateT S (F+(k:Int)))/\(stateT S (F+(k:Int))).length<=n/\fewP (stateT S (F+(k:Int)))=true/\(Fp.bytes (stateT S (F+(k:Int)))).length<=3000:=by
 have e:=h.state hk
 have hs:Fp.St (Fp.fold s0 ((rs.take k).map fun r=>r.d)):=Fp.St.fold h.snap.2.2 fun s hs=>by
  obtain ⟨r,hr,rfl⟩:=List.mem_map.1 hs;have:=h.ok r (List.mem_of_mem_take hr);unfold Rp.Ok at this;omega
 have hl:=zfH ((rs.take k).map fun r=>r.d) s0;rw [List.length_map,List.length_take] at hl;rw [e];have h2:=zlK hs (by omega);exact ⟨hs,by omega,h2.1,h2.2⟩
theorem Log.play_n (h:Log q S F s0 rs) (hq:0<q) (hv:S.v<1099511627776) (i:Int) (a:Pa):∃F' s0' rs',Log q (playA q i S a) F' s0' rs'/\s0'.length+rs'.length<=s0.length+rs.length+1:=by
 unfold playA
 split
 · exact ⟨_,_,_,h.sync.1,by omega⟩
 split
 · obtain ⟨m,hm,m2,_⟩:=h.trim_law hv a.n a.m
   refine ⟨_,_,_,m2,?_⟩
   have hl:=zfH ((rs.take m).map fun r=>r.d) s0;rw [List.length_map,List.length_take] at hl;rw [List.length_drop];omega
 split
 · exact ⟨_,_,_,h.arm a.n,by omega⟩
 split
 · exact ⟨_,_,_,h.limit a.n,by omega⟩
 · obtain ⟨_,h2,h3⟩:=h.append hq hv ⟨S.x,i,a.d⟩
   rcases h3 with ⟨_,_,_,h3⟩ | ⟨_,h3,_⟩
   · exact ⟨_,_,_,h3,by rw [List.length_append,List.length_singleton];omega⟩
   · exact ⟨_,_,_,h3,by omega⟩
end Lg
end Go.Proofs.YtgmppfpllogdcaaGreat

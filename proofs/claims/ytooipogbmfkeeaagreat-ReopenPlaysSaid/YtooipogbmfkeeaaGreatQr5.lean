/-
  Parts of what the laws of this seat stand on:LogApp,LogTrim.
-/
import Derived.Test.YtooipogbmfkeeaaGreatQr1
import Derived.Test.YtooipogbmfkeeaaGreatQr4
set_option maxRecDepth 100000
set_option maxHeartbeats 6400000
namespace Go.Proofs.YtooipogbmfkeeaaGreat
namespace Lg
open Dp So
variable {q F:Int} {S:St} {s0:List Fp.Pr} {rs:List Rp.Rec}
theorem zj3 (t:List Rt.Sg) (g g':Rt.Sg) (h:g'.b=g.b):((t++[g']).headD Rt.zero).b=((t++[g]).headD Rt.zero).b:=by
 cases t
 · exact h
 · rfl
theorem Log.put (h:Log q S F s0 rs) (hz:(lastG S).z<q) {r:Rp.Rec} (hr:Rp.Ok r) (ha:r.a=S.x) (hx:S.x<1099511627776):
 (put S r).1.s=S.s/\(((put S r).2=0/\Log q (put S r).1 F s0 (rs++[r])/\(put S r).1.d.x=false)\/(((put S r).2=9\/(put S r).2=10)/\Log q (put S r).1 F s0 rs)):=by
 have hR:=zgG h.dr (segN (lastG S).b) ⟨(Rp.putB r).toArray⟩
 have hp:Rp.putB r=Fr.fr (Rp.body r):=by unfold Rp.putB;rw [if_pos (Rp.fault_zero hr)]
 obtain ⟨t,l,m,e1,e2,e3,e4,e5,⟨f,f1,f2,f3⟩,e7,e8⟩:=h.seg;have hbl:=h.bases;have hf0:=h.f0;have hX:=h.x;have hhi:=h.hi;have hlo:=h.lo
 have hlen:rs.length=l.length+m.length:=by rw [e2,List.length_append]
 unfold So.put;dsimp only
 rcases zc2 h.dr (segN (lastG S).b) ⟨(Rp.putB r).toArray⟩ with h1 | ⟨_,h1,_⟩ | ⟨_,_,h1⟩ | ⟨f',h1,hD⟩
 · rw [if_pos (by rw [h1.e];decide),h1.e]
   exact ⟨rfl,.inr ⟨.inr rfl,h.dead hR h1.x fun n _=>by rw [h1.f]⟩⟩
 · exact absurd h1 h.has_last
 · rw [h1,if_pos (by show (9:Int)≠0;decide)]
   exact ⟨rfl,.inr ⟨.inl rfl,h⟩⟩
 · rw [f1] at h1
   obtain rfl:=Option.some.inj h1
   rw [if_neg (by rw [hD.e];decide)];have hDf:=hD.f;have hDy:=hD.y;have hDx:=hD.x;clear hD;generalize (Dp.append S.d (segN (lastG S).b) ⟨(Rp.putB r).toArray⟩).1=D at*
   have hoth:∀n,n≠segN (lastG S).b->get D.f n=get S.d.f n:=fun n hn=>by rw [hDf,if_neg hn]
   have hg:(grown S.g (Rp.putB r).length)=t++[⟨(lastG S).b,(lastG S).n+1,(lastG S).z+((Rp.putB r).length:Nat)⟩]:=by
    rw [e1];have:=zj0 t (lastG S) (Rp.putB r).length;exact this
   have hlg:∀D' x',lastG {S with d:=D',g:=grown S.g (Rp.putB r).length,x:=x'}=⟨(lastG S).b,(lastG S).n+1,(lastG S).z+((Rp.putB r).length:Nat)⟩:=fun D' x'=>by
    show (grown S.g _).getD ((grown S.g _).length-1) Rt.zero=_;rw [hg,zcr]
   have hb:(grown S.g (Rp.putB r).length).map (fun g:Rt.Sg=>g.b)=S.g.map fun g:Rt.Sg=>g.b:=by
    rw [hg]
    conv=>rhs;rw [e1]
    rw [List.map_append,List.map_append]
    rfl
   have hman:∀D' x',man {S with d:=D',g:=grown S.g (Rp.putB r).length,x:=x'}=man S:=fun D' x'=>by
    unfold man;dsimp only;rw [hb]
   have hfl:((grown S.g (Rp.putB r).length).headD Rt.zero).b=F:=by
    rw [hg];refine (zj3 t (lastG S) ⟨(lastG S).b,(lastG S).n+1,(lastG S).z+((Rp.putB r).length:Nat)⟩ rfl).trans ?_;rw [<-e1];exact h.fl
   have hnm:∀n,Nms F S.g n↔Nms F (grown S.g (Rp.putB r).length) n:=fun n=>by
    have:∀l:List Rt.Sg,(∃a∈l,n=segN a.b)↔ ∃b∈l.map (fun g:Rt.Sg=>g.b),n=segN b:=fun l=>by
     constructor
     · rintro ⟨a,ha,e⟩
       exact ⟨a.b,List.mem_map_of_mem ha,e⟩
     · rintro ⟨b,hb,e⟩
       obtain ⟨a,ha,rfl⟩:=List.mem_map.1 hb
       exact ⟨a,ha,e⟩
    unfold Nms;rw [this,this,hb]
   refine ⟨rfl,.inl ⟨rfl,⟨hR,fun y hy=>?_,zgE F rs r h.up (by omega),hfl,?_,h.f0,by show S.x+1<=_;omega,by rw [hman];exact h.mo,⟨t,l,m++[r],?_,by rw [e2,List.append_assoc],?_,?_,?_,?_,?_,?_⟩,?_,by show S.s<=S.x+1;omega,?_,?_,fun _ n hn=>?_⟩,hDy⟩⟩
   · rcases List.mem_append.1 hy with hy | hy
     · exact h.ok y hy
     · rw [List.mem_singleton] at hy;subst hy;exact hr
   · show S.x+1=_
     rw [List.length_append,List.length_singleton]
     omega
   · rw [hlg]
     exact hg
   · exact e3.keep fun a ha'=>hoth _ fun e=>by
      have:=e3.bases a ha';have:=zc9 (by omega) (by omega) (by omega) (by omega) e;omega
   · rw [hlg];exact e4
   · rw [hlg]
     show (lastG S).n+1=_
     rw [List.length_append,List.length_singleton];omega
   · rw [hlg]
     refine ⟨⟨segN (lastG S).b,f.d++⟨(Rp.putB r).toArray⟩,f.s⟩,by show get D.f (segN (lastG S).b)=_;rw [hDf,if_pos rfl],?_,?_⟩
     · rw [Rp.rowB_snoc, <-hp, <-f2]
       simp
     · show ((Rp.rowB ((m++[r]).take (S.s-(lastG S).b).toNat)).length:Int)<=f.s
       rw [List.take_append_of_le_length (by omega)]
       exact f3
   · rw [hlg]
     show (lastG S).z+_=_
     rw [Rp.rowB_snoc,List.length_append,e7, <-hp];omega
   · rw [hlg]
     have h1:=Rp.fr_le hr
     have h2:=Rp.body_le hr;show (lastG S).z+((Rp.putB r).length:Int)<=_;rw [hp];omega
   · rw [hlg]
     exact hlo
   · rcases h.sn with h6 | ⟨h6,h7,h8,h9,h10⟩
     · exact .inl h6
     · exact .inr ⟨h6,h7,h8,h9,h10.keep (hoth _ (zbn (by omega) (by omega) (by omega) (by omega)))⟩
   · rw [hman]
     exact h.mf.keep (hoth _ (zbs (by omega) (by omega)).1.symm)
   · have hn':get D.f n≠none:=hn
     refine (hnm n).1 ?_
     by_cases e:n=segN (lastG S).b
     · exact .inr (.inr ⟨_,h.last_mem,e⟩)
     · rw [hoth n e] at hn'
       exact h.cl hDx n hn'
theorem roll_x (S:St):(So.roll S).1.x=S.x/\(So.roll S).1.v<=S.v+1/\S.v<=(So.roll S).1.v:=by
 have e1:(zap S).1.x=S.x:=rfl;have e2:(zap S).1.v=S.v:=rfl;unfold So.roll
 split
 · exact ⟨rfl,by show S.v<=S.v+1;omega,Int.le_refl _⟩
 split
 · exact ⟨e1,by omega,Int.le_of_eq e2.symm⟩
 dsimp only
 split
 · exact ⟨e1,by show (zap S).1.v<=_;omega,Int.le_of_eq e2.symm⟩
 split
 · exact ⟨e1,by show (zap S).1.v<=_;omega,Int.le_of_eq e2.symm⟩
 split
 · exact ⟨e1,by show (zap S).1.v<=_;omega,Int.le_of_eq e2.symm⟩
 · exact ⟨e1,by show (zap S).1.v+1<=_;omega,by show _<=(zap S).1.v+1;omega⟩
theorem put_v (S:St) (r:Rp.Rec):(So.put S r).1.v=S.v:=by
 unfold So.put;dsimp only
 split<;>rfl
theorem Log.append (h:Log q S F s0 rs) (hq:0<q) (hv:S.v<1099511627776) (r:Rp.Rec):
 S.s<=(So.append S q r).1.s/\(So.append S q r).1.v<=S.v+1/\(((So.append S q r).2=0/\Rp.Ok r/\r.a=S.x/\Log q (So.append S q r).1 F s0 (rs++[r]))\/((So.append S q r).2≠0/\Log q (So.append S q r).1 F s0 rs/\(¬(Rp.Ok r/\r.a=S.x)\/1099511627776<=S.x\/(So.append S q r).2=9\/(So.append S q r).2=10))):=by
 unfold So.append
 split
 · rename_i h1
   exact ⟨Int.le_refl _,by show S.v<=_;omega,.inr ⟨by show (1:Int)≠0;decide,h,.inl h1⟩⟩
 rename_i h1;have h1:Rp.Ok r/\r.a=S.x:=Classical.not_not.1 h1
 split
 · rename_i h2
   exact ⟨Int.le_refl _,by show S.v<=_;omega,.inr ⟨by show (13:Int)≠0;decide,h,.inr (.inl h2)⟩⟩
 rename_i h2;have hv2:=roll_x S
 split
 · rename_i h3
   obtain ⟨r1,r2,r3⟩:=h.roll hq h3 (by omega) hv
   split
   · rename_i h4
     refine ⟨r2,hv2.2.1,.inr ⟨h4,r1,?_⟩⟩
     rcases r3 with ⟨a,_⟩ | a | ⟨a,_⟩
     · exact absurd a h4
     · exact .inr (.inr (.inl a))
     · exact .inr (.inr (.inr a))
   · rename_i h4
     have h4:(So.roll S).2=0:=by simpa using h4
     have hz:(lastG (So.roll S).1).z=0:=by
      rcases r3 with ⟨_,a,_⟩ | a | ⟨a,_⟩
      · exact a
      · rw [h4] at a;cases a
      · rw [h4] at a;cases a
     obtain ⟨p1,p2⟩:=r1.put (by rw [hz];exact hq) h1.1 (by rw [hv2.1];exact h1.2) (by rw [hv2.1];omega);have p3:=put_v (So.roll S).1 r;refine ⟨by omega,by omega,?_⟩
     rcases p2 with ⟨a1,a2,_⟩ | ⟨a1,a2⟩
     · exact .inl ⟨a1,h1.1,h1.2,a2⟩
     · exact .inr ⟨by rcases a1 with a1 | a1<;>rw [a1]<;>decide,a2,.inr (.inr a1)⟩
 · rename_i h3
   obtain ⟨p1,p2⟩:=h.put (by omega) h1.1 h1.2 (by omega)
   have p3:=put_v S r;refine ⟨by omega,by omega,?_⟩
   rcases p2 with ⟨a1,a2,_⟩ | ⟨a1,a2⟩
   · exact .inl ⟨a1,h1.1,h1.2,a2⟩
   · exact .inr ⟨by rcases a1 with a1 | a1<;>rw [a1]<;>decide,a2,.inr (.inr a1)⟩
theorem Log.recs (h:Log q S F s0 rs):(S.g.flatMap fun g=>zdk S.d g.b)=rs:=by
 obtain ⟨t,l,r,e1,e2,e3,e4,e5,e6,e7,e8⟩:=h.seg;have hup:=h.up;have hok:=h.ok;have hx:=h.x;have hfx:=h.fx;have hf0:=h.f0;subst e2;rw [List.length_append] at hx;obtain ⟨i1,i2⟩:=zbx F l r hup;rw [e1,List.flatMap_append,e3.so.recs (fun y hy=>hok y (List.mem_append_left _ hy)) i1 hf0 (by omega)]
 congr 1
 show zdk S.d (lastG S).b++[]=r;rw [List.append_nil];unfold zdk;rw [e6.dat];exact zja (fun y hy=>hok y (List.mem_append_right _ hy)) (by rw [e4];exact i2) (by omega) (by omega)
theorem Log.read (h:Log q S F s0 rs) {i:Nat} (hi:i<rs.length):zco S (F+(i:Int))=(rs[i],0):=by
 have hx:=h.x;have hf0:=h.f0;unfold zco;rw [if_neg (by omega),h.recs,zlN F rs h.up i hi]
def snapT (S:St):List UInt8:=if floor S=0 then [] else (dat S.d (snapN (floor S))).getD []
noncomputable def stateT (S:St) (o:Int):List Fp.Pr:=(List.range (o-floor S).toNat).foldl (fun l (i:Nat)=>Fp.step l (zco S (floor S+(i:Int))).1.d) ((Fp.parse (snapT S)).getD [])
theorem zk6:Fp.parse []=none:=by
 unfold Fp.parse
 rfl
theorem Log.snap (h:Log q S F s0 rs):(Fp.parse (snapT S)).getD []=s0/\(snapT S).length=S.z.toNat/\Fp.St s0:=by
 unfold snapT;rw [h.fl]
 rcases h.sn with ⟨h1,rfl,h3,_⟩ | ⟨h1,h2,h3,h4,h5⟩
 · rw [if_pos h1,zk6,h3]
   exact ⟨rfl,rfl,Fp.St.nil⟩
 · rw [if_neg (by omega),h5.dat]
   dsimp only [Option.getD_some]
   rw [Fp.parse_bytes h2,h3];exact ⟨rfl,by omega,h2⟩
theorem Log.state (h:Log q S F s0 rs) {k:Nat} (hk:k<=rs.length):stateT S (F+(k:Int))=Fp.fold s0 ((rs.take k).map fun r=>r.d):=by
 unfold stateT;rw [h.fl,h.snap.1,show (F+(k:Int)-F).toNat=k from by omega]
 induction k with
 | zero=>simp [Fp.fold]
 | succ k ih=>
  rw [List.range_succ,List.foldl_append,ih (by omega),List.take_succ_eq_append_getElem (by omega),List.map_append,Fp.fold_append];show Fp.step _ _=Fp.step _ _;rw [h.read (by omega)]
theorem Log.new {q:Int} (hq:0<=q):(zal empty).2=0/\Log q (zal empty).1 0 [] []/\(zal empty).1.v=1:=by
 obtain ⟨c1,c2,c3⟩:=zfp hq;have R0:=Right.empty;have r1:=zel R0 (segN 0);have hns:segN 0≠nm/\segN 0≠nn:=zbs (by decide) (by decide);have hman:∀D:Dk,man ⟨D,1,[⟨0,0,0⟩],0,0,0,0⟩=⟨1,[0],0,0⟩:=fun D=>rfl;unfold zal at c1 c2 c3 ⊢
 rcases zca R0 (zfe (show (0:Int)<=0 by decide) (by decide)) with h1 | ⟨_,h2,_⟩ | ⟨hg,hC⟩
 · rw [if_pos (by rw [h1.e];decide),h1.e] at c1;cases c1
 · exact absurd rfl h2
 rw [if_neg (by rw [hC.e];decide)] at c1 c2 c3 ⊢;dsimp only at c1 c2 c3 ⊢;have hCf:=hC.f;have hCy:=hC.y;clear hC;generalize (create empty (segN 0)).1=C at*;rw [hman] at c1 c2 c3 ⊢
 have hcn:get C.f nn=none:=by rw [hCf,if_neg hns.2.symm];rfl
 obtain ⟨hW1,_⟩:=zd4 r1 ⟨1,[0],0,0⟩
 rcases zdL r1 zf7 (fun _=>hcn) with h1 | ⟨_,h2,_⟩ | hW
 · rw [if_pos (by rw [h1.e];decide),h1.e] at c1;cases c1
 · rw [if_pos (by rw [h2];decide),h2] at c1;cases c1
 rw [if_neg (by rw [hW.e];decide)];have hWf:=hW.f;have hWy:=hW.y;clear hW c1 c2 c3;generalize (swap C ⟨1,[0],0,0⟩).1=W at*;refine ⟨rfl,⟨hW1,by simp,trivial,rfl,rfl,Int.le_refl _,by show (0:Int)<=_;decide,by rw [hman];exact zf7,⟨[],[],[],rfl,rfl,rfl,rfl,rfl,⟨⟨segN 0,⟨#[]⟩,0⟩,?_,rfl,Int.le_refl _⟩,rfl,by show (0:Int)<=_;omega⟩,Int.le_refl _,Int.le_refl _,.inl ⟨rfl,rfl,rfl,rfl⟩,⟨_,(hWf nm).trans (if_pos rfl),rfl,rfl⟩,fun _ n hn=>?_⟩,rfl⟩
 · show get W.f (segN 0)=_
   rw [hWf,if_neg hns.1,hCf,if_pos rfl]
 · have hn':get W.f n≠none:=hn
   rw [hWf] at hn'
   by_cases e1:n=nm
   · exact .inl e1
   · rw [if_neg e1,hCf] at hn'
     by_cases e2:n=segN 0
     · exact .inr (.inr ⟨⟨0,0,0⟩,List.mem_singleton.2 rfl,e2⟩)
     · rw [if_neg e2] at hn'
       exact absurd rfl hn'
variable {q F:Int} {S:St} {s0:List Fp.Pr} {rs:List Rp.Rec}
def undo (R:Dk×Int) (n:ByteArray):Dk×Int:=if R.2=9 then ((delete R.1 n).1,if (delete R.1 n).2=0 then 9 else (delete R.1 n).2) else R
def delSegs:Dk->List Rt.Sg->Dk×Int
 | D,[]=>(D,0)
 | D,g::t=>if (delete D (segN g.b)).2≠0 then delete D (segN g.b) else delSegs (delete D (segN g.b)).1 t
def trimF (S:St) (k:Nat):Int:=(S.g.getD k Rt.zero).b
noncomputable def trimB (S:St) (k:Nat):List UInt8:=Fp.bytes (stateT S (trimF S k))
noncomputable def trimX (S:St) (k:Nat):St:={S with v:=S.v+1,g:=S.g.drop k,z:=((trimB S k).length:Int),c:=(Cp.sum 0 (trimB S k):Int)}
noncomputable def trim1 (S:St) (k:Nat):Dk×Int:=if (create S.d (snapN (trimF S k))).2≠0 then create S.d (snapN (trimF S k)) else undo (Dp.append (create S.d (snapN (trimF S k))).1 (snapN (trimF S k)) ⟨(trimB S k).toArray⟩) (snapN (trimF S k))
noncomputable def trim2 (S:St) (k:Nat):Dk×Int:=if (trim1 S k).2≠0 then trim1 S k else Dp.sync (trim1 S k).1 (snapN (trimF S k))
noncomputable def trim3 (S:St) (k:Nat):Dk×Int:=if (trim2 S k).2≠0 then trim2 S k else undo (swap (trim2 S k).1 (man (trimX S k))) (snapN (trimF S k))
def trim4 (S:St) (k:Nat) (D:Dk):Dk×Int:=if (delSegs D (S.g.take k)).2=0/\0<floor S then delete (delSegs D (S.g.take k)).1 (snapN (floor S)) else delSegs D (S.g.take k)
noncomputable def trimK (S:St) (k:Nat):St×Int:=
 if k=0 then (S,0) else if (trim3 S k).2≠0 then ({S with d:=(trim3 S k).1},(trim3 S k).2)
 else ({trimX S k with d:=(trim4 S k (trim3 S k).1).1},(trim4 S k (trim3 S k).1).2)
theorem zgo {D0:Dk} {R:Dk×Int} {n:ByteArray} {E:Fl} (h9:R.2=9) (hR:Right R.1) (hn:get D0.f n=none) (hf:∀m,get R.1.f m=if m=n then some E else get D0.f m):
 Right (undo R n).1/\(((undo R n).2=10/\(undo R n).1.x=true/\∀m,m≠n->get (undo R n).1.f m=get D0.f m)\/((undo R n).2=9/\(undo R n).1.x=false/\∀m,get (undo R n).1.f m=get D0.f m)):=by
 unfold undo;rw [if_pos h9];refine ⟨zdX hR n,?_⟩
 rcases zbp hR n with h | ⟨_,h,_⟩ | ⟨_,hD⟩
 · rw [if_neg (by rw [h.e];decide)]
   exact .inl ⟨h.e,h.x,fun m hm=>by show get (delete R.1 n).1.f m=_;rw [h.f,hf,if_neg hm]⟩
 · rw [hf,if_pos rfl] at h;cases h
 · rw [if_pos hD.e]
   refine .inr ⟨rfl,hD.y,fun m=>?_⟩
   show get (delete R.1 n).1.f m=_;rw [hD.f]
   by_cases e:m=n
   · rw [if_pos e,e,hn]
   · rw [if_neg e,hf,if_neg e]
theorem zc6 {R:Dk×Int} {n:ByteArray} (h:R.2≠9):undo R n=R:=if_neg h
theorem Fulls.split {D:Dk} {q:Int}:∀{t:List Rt.Sg} {b:Int} {rs:List Rp.Rec} (k:Nat),Fulls D q t b rs->k<=t.length->
 ∃l1 l2,rs=l1++l2/\Fulls D q (t.take k) b l1/\Fulls D q (t.drop k) (b+l1.length) l2/\(0<k->l1≠[])/\(k<t.length->(t.getD k Rt.zero).b=b+l1.length)/\(k=t.length->l2=[])
 | t,b,rs,0,h,_=>⟨[],rs,rfl,by rw [List.take_zero];rfl,by rw [List.drop_zero];simpa using h,fun h=>absurd h (Nat.lt_irrefl 0),fun hk=>by
  cases t with
  | nil=>simp at hk
  | cons g t=>simpa using h.1,fun hk=>by
  cases t with
  | nil=>exact h
  | cons g t=>simp at hk⟩
 | g::t,b,rs,k+1,⟨h1,l,r,h2,h3,h4,h5,h6,h7,h8,h9⟩,hk=>by
  obtain ⟨l1,l2,e1,e2,e3,e4,e5,e6⟩:=h9.split k (by simpa using hk);refine ⟨l++l1,l2,by rw [h2,e1,List.append_assoc],?_,?_,fun _=>by simp [h3],fun h=>?_,fun h=>e6 (by simpa using h)⟩
  · rw [List.take_succ_cons]
    exact ⟨h1,l,l1,rfl,h3,h4,h5,h6,h7,h8,e2⟩
  · rw [List.drop_succ_cons,List.length_append]
    rw [h4] at e3
    rw [show b+((l.length+l1.length:Nat):Int)=b+(l.length:Int)+(l1.length:Int) from by omega];exact e3
  · have:=e5 (by simpa using h)
    rw [h4] at this
    simp only [List.getD_cons_succ,List.length_append];omega
theorem Fulls.pair {D:Dk} {q:Int}:∀{t:List Rt.Sg} {b:Int} {rs:List Rp.Rec},Fulls D q t b rs->t.Pairwise fun a b=>a.b<b.b
 | [],_,_,_=>List.Pairwise.nil
 | g::t,b,rs,⟨h1,l,r,h2,h3,h4,h5,h6,h7,h8,h9⟩=>List.Pairwise.cons (fun a ha=>by
  have:=h9.bases a ha;have:=List.length_pos_iff.2 h3
  omega) h9.pair
theorem Fulls.there {D:Dk} {q:Int}:∀{t:List Rt.Sg} {b:Int} {rs:List Rp.Rec},Fulls D q t b rs->∀a∈t,get D.f (segN a.b)≠none
 | [],_,_,_,a,ha=>by cases ha
 | g::t,b,rs,⟨h1,l,r,h2,h3,h4,h5,h6,h7,h8,h9⟩,a,ha=>by
  rcases List.mem_cons.1 ha with rfl | ha
  · obtain ⟨f,h,_⟩:=h5
    rw [h1,h];simp
  · exact h9.there a ha
theorem zdI:∀(t:List Rt.Sg) {D:Dk},Right D->D.x=false->t.Pairwise (fun a b=>a.b<b.b)->(∀a∈t,0<=a.b/\a.b<=1099511627776)->(∀a∈t,get D.f (segN a.b)≠none)->
 Right (delSegs D t).1/\(((delSegs D t).2=10/\(delSegs D t).1.x=true/\∀n,(∀a∈t,n≠segN a.b)->get (delSegs D t).1.f n=get D.f n)\/
  ((delSegs D t).2=0/\(delSegs D t).1.x=false/\(∀n,(∀a∈t,n≠segN a.b)->get (delSegs D t).1.f n=get D.f n)/\∀a∈t,get (delSegs D t).1.f (segN a.b)=none))
 | [],D,hR,hx,_,_,_=>⟨hR,.inr ⟨rfl,hx,fun _ _=>rfl,fun a ha=>by cases ha⟩⟩
 | g::t,D,hR,hx,hp,hb,hg=>by
  have hp':=List.pairwise_cons.1 hp;have hR':=zdX hR (segN g.b)
  have hne:∀a∈t,segN a.b≠segN g.b:=fun a ha e=>by
   have h1:=hb a (mcm ha);have h2:=hb g mcs;have h3:=hp'.1 a ha;have:=zc9 h1.1 h1.2 h2.1 h2.2 e;omega
  unfold delSegs
  rcases zbp hR (segN g.b) with h | ⟨_,h,_⟩ | ⟨_,hD⟩
  · rw [if_pos (by rw [h.e];decide)]
    exact ⟨hR',.inl ⟨h.e,h.x,fun n _=>by rw [h.f]⟩⟩
  · exact absurd h (hg g mcs)
  · rw [if_neg (by rw [hD.e];decide)]
    have hDf:=hD.f
    have hDy:=hD.y;clear hD;generalize (delete D (segN g.b)).1=E at*
    obtain ⟨i1,i2⟩:=zdI t hR' hDy hp'.2 (fun a ha=>hb a (mcm ha)) (fun a ha=>by
     rw [hDf,if_neg (hne a ha)]
     exact hg a (mcm ha))
    refine ⟨i1,?_⟩
    rcases i2 with ⟨a1,a2,a3⟩ | ⟨a1,a2,a3,a4⟩
    · exact .inl ⟨a1,a2,fun n hn=>by rw [a3 n fun a ha=>hn a (mcm ha),hDf,if_neg (hn g mcs)]⟩
    · refine .inr ⟨a1,a2,fun n hn=>by rw [a3 n fun a ha=>hn a (mcm ha),hDf,if_neg (hn g mcs)],fun a ha=>?_⟩
      rcases List.mem_cons.1 ha with rfl | ha
      · rw [a3 _ fun b hb'=>(hne b hb').symm,hDf,if_pos rfl]
      · exact a4 a ha
theorem sum_lt (L:List UInt8):Cp.sum 0 L<4294967296:=by unfold Cp.sum Cp.turn;omega
theorem zl8 {l:List Fp.Pr} (h:Fp.St l):1<=(Fp.bytes l).length/\(Fp.bytes l).length<=20000:=by
 have h1:=Fp.flat_len l 63 fun p hp=>(h.1 p hp).2;have h2:=h.2.len;have h3:=Vp.put_len_le l.length;have h4:1<=(Vp.put l.length).length:=Vp.put_len_pos _;have h5:l.length*(10+63)<=256*73:=Nat.mul_le_mul h2 (Nat.le_refl _);unfold Fp.bytes;rw [List.length_append];omega
theorem man_drop {v z c z' c':Int} {l:List Int} (h:Qm.Ok ⟨v,l,z,c⟩) {k:Nat} (hk:k<l.length) (hv:v<1099511627776) (hp:l.getD k 0≠0) (hz:1<=z'/\z'<=65536) (hc:0<=c'/\c'<4294967296):Qm.Ok ⟨v+1,l.drop k,z',c'⟩:=by
 have hg:∀i,(l.drop k).getD i 0=l.getD (k+i) 0:=fun i=>by simp [List.getD_eq_getElem?_getD,List.getElem?_drop]
 have n1:l.length<=64:=h.n1;have v0:1<=v:=h.v0;refine ⟨by show 1<=v+1;omega,by show v+1<=_;omega,by show 1<=(l.drop k).length;rw [List.length_drop];omega,by show (l.drop k).length<=64;rw [List.length_drop];omega,fun i hi=>?_,.inr ⟨?_,hz⟩,hc⟩
 · have hi':i<l.length-k:=by have:i<(l.drop k).length:=hi;rwa [List.length_drop] at this
   have:=h.at_ (k+i) (by show k+i<l.length;omega)
   show Qm.AtOk (l.drop k) i;unfold Qm.AtOk;rw [hg];refine ⟨this.1,this.2.1,fun h0=>?_⟩;rw [hg,show k+(i-1)=k+i-1 from by omega];exact this.2.2 (by omega)
 · show (l.drop k).getD 0 0≠0
   rw [hg]
   exact hp
theorem map_at (l:List Rt.Sg) (k:Nat):(l.map fun g:Rt.Sg=>g.b).getD k 0=(l.getD k Rt.zero).b:=by
 simp only [List.getD_eq_getElem?_getD,List.getElem?_map]
 rcases l[k]? with _ | a<;>rfl
theorem Log.trim (h:Log q S F s0 rs) {k:Nat} (h0:0<k) (hk:k<S.g.length) (hv:S.v<1099511627776):
 ∃m:Nat,0<m/\m<=rs.length/\trimF S k=F+m/\
  ((Log q (trimK S k).1 F s0 rs/\((trimK S k).2=9\/((trimK S k).2=10/\(trimK S k).1.d.x=true))/\(trimK S k).1={S with d:=(trimK S k).1.d})\/
   (Log q (trimK S k).1 (F+m) (Fp.fold s0 ((rs.take m).map fun r=>r.d)) (rs.drop m)/\((trimK S k).2=0\/((trimK S k).2=10/\(trimK S k).1.d.x=true))/\(trimK S k).1={trimX S k with d:=(trimK S k).1.d})):=by
 obtain ⟨t,l,r,e1,e2,e3,e4,e5,e6,e7,e8⟩:=h.seg;have hf0:=h.f0;have hfx:=h.fx;have hX:=h.x
 have hkt:k<=t.length:=by rw [e1] at hk;simp at hk;omega
 obtain ⟨l1,l2,d1,d2,d3,d4,d5,d6⟩:=e3.split k hkt;have hm0:0<l1.length:=List.length_pos_iff.2 (d4 h0)
 have hlen:rs.length=l1.length+l2.length+r.length:=by rw [e2,d1,List.length_append,List.length_append]
 have htk:S.g.take k=t.take k:=by rw [e1,List.take_append_of_le_length hkt]
 have hdk:S.g.drop k=t.drop k++[lastG S]:=by conv=>lhs;rw [e1,List.drop_append_of_le_length hkt]
 have hF:trimF S k=F+l1.length:=by
  unfold trimF
  by_cases e:k<t.length
  · rw [<-d5 e]
    congr 1
    conv=>lhs;rw [e1]
    simp [List.getD_eq_getElem?_getD,List.getElem?_append_left e]
  · obtain rfl:k=t.length:=by omega
    have:S.g.getD t.length Rt.zero=lastG S:=by
     conv=>lhs;rw [e1]
     simp [List.getD_eq_getElem?_getD]
    rw [this,e4,d1,d6 rfl,List.append_nil]
 refine ⟨l1.length,hm0,by omega,hF,?_⟩
 have htake:rs.take l1.length=l1:=by rw [e2,d1,List.append_assoc,List.take_left]
 have hdrop:rs.drop l1.length=l2++r:=by rw [e2,d1,List.append_assoc,List.drop_left]
 rw [htake,hdrop]
 have hst:stateT S (F+(l1.length:Int))=Fp.fold s0 (l1.map fun r=>r.d):=by rw [h.state (by omega),htake]
 have hB:trimB S k=Fp.bytes (Fp.fold s0 (l1.map fun r=>r.d)):=by unfold trimB;rw [hF,hst]
 have hSt:Fp.St (Fp.fold s0 (l1.map fun r=>r.d)):=h.snap.2.2.fold fun s hs=>by
  obtain ⟨r',hr',rfl⟩:=List.mem_map.1 hs;exact (h.ok r' (by rw [<-htake] at hr';exact List.mem_of_mem_take hr')).2.2.2.2
 have hbl:=zl8 hSt
 have hmX:∀D,man {trimX S k with d:=D}=man (trimX S k):=fun D=>rfl
 have hmo:Qm.Ok (man (trimX S k)):=by
  have hmo:=h.mo;have hF':=hF;unfold trimF at hF';have:=man_drop (k:=k) hmo (by show k<(S.g.map _).length;rw [List.length_map];exact hk) hv (by show (S.g.map fun g:Rt.Sg=>g.b).getD k 0≠0;rw [map_at];omega) (z':=((trimB S k).length:Int)) (c':=(Cp.sum 0 (trimB S k):Int)) (by rw [hB];omega) (by have:=sum_lt (trimB S k);omega)
  have e:man (trimX S k)=⟨S.v+1,(S.g.map (fun g:Rt.Sg=>g.b)).drop k,((trimB S k).length:Int),(Cp.sum 0 (trimB S k):Int)⟩:=by
   unfold man trimX;dsimp only;rw [List.map_drop]
  rw [e];exact this
 have hnb:∀n,Nms F S.g n->n≠snapN (trimF S k):=fun n hn=>by
  obtain ⟨b1,b2,b3⟩:=h.bases;rw [hF]
  rcases hn with rfl | ⟨_,rfl⟩ | ⟨a,ha,rfl⟩
  · exact (zc8 (by omega) (by omega)).1.symm
  · intro e
    have:=zgz (by omega) (by omega) (by omega) (by omega) e
    omega
  · have:=b3 a ha
    exact (zbn (by omega) (by omega) (by omega) (by omega)).symm
 have hnn:∀n,Nms F S.g n->n≠nn:=fun n hn=>h.not_nn hn
 have hsn:snapN (trimF S k)≠nm/\snapN (trimF S k)≠nn:=by rw [hF];exact zc8 (by omega) (by omega)
 have hname:Named (snapN (trimF S k)):=by rw [hF];exact zjX (by omega) (by omega)
 have old:∀(D:Dk) (e:Int),Right D->trim3 S k=(D,e)->(e=9\/(e=10/\D.x=true))->(∀n,n≠snapN (trimF S k)->n≠nn->get D.f n=get S.d.f n)->(D.x=false->∀n,get D.f n=get S.d.f n)->S.d.x=false\/D.x=true->
  Log q (trimK S k).1 F s0 rs/\((trimK S k).2=9\/((trimK S k).2=10/\(trimK S k).1.d.x=true))/\(trimK S k).1={S with d:=(trimK S k).1.d}:=by
  intro D e hR h3 he hf hc hd
  have hne:(trim3 S k).2≠0:=by rw [h3];rcases he with h | ⟨h,_⟩<;>(show e≠0;omega)
  unfold trimK;rw [if_neg (by omega),if_pos hne,h3];refine ⟨h.disk hR (fun n hn=>hf n (hnb n hn) (hnn n hn)) fun e n hn=>?_,he,rfl⟩
  rcases hd with hd | hd
  · rw [hc e] at hn
    exact h.cl hd n hn
  · rw [hd] at e;cases e
 have hC1:=zel h.dr (snapN (trimF S k))
 rcases zca h.dr hname with g1 | ⟨g1,g2,_⟩ | ⟨hg,hC⟩
 · have t1:trim1 S k=((create S.d (snapN (trimF S k))).1,10):=by
    unfold trim1;rw [if_pos (by rw [g1.e];decide), <-g1.e]
   have t3:trim3 S k=((create S.d (snapN (trimF S k))).1,10):=by
    have t2:trim2 S k=((create S.d (snapN (trimF S k))).1,10):=by unfold trim2;rw [t1,if_pos (by show (10:Int)≠0;decide)]
    unfold trim3;rw [t2,if_pos (by show (10:Int)≠0;decide)]
   exact .inl (old _ _ hC1 t3 (.inr ⟨rfl,g1.x⟩) (fun n _ _=>by rw [g1.f]) (fun _ n=>by rw [g1.f]) (.inr g1.x))
 · exact absurd rfl (hnb _ (h.cl g1 _ g2))
 have hx:=hC.x;have hCf:=hC.f;have hCy:=hC.y
 have t1:trim1 S k=undo (Dp.append (create S.d (snapN (trimF S k))).1 (snapN (trimF S k)) ⟨(trimB S k).toArray⟩) (snapN (trimF S k)):=by
  unfold trim1;rw [if_neg (by rw [hC.e];decide)]
 clear hC;generalize (create S.d (snapN (trimF S k))).1=C at*;have hA1:=zgG hC1 (snapN (trimF S k)) ⟨(trimB S k).toArray⟩
 rcases zc2 hC1 (snapN (trimF S k)) ⟨(trimB S k).toArray⟩ with g1 | ⟨_,g1,_⟩ | ⟨_,_,g1⟩ | ⟨f,g1,hA⟩
 · rw [zc6 (by rw [g1.e];decide)] at t1
   have t2:trim2 S k=Dp.append C (snapN (trimF S k)) ⟨(trimB S k).toArray⟩:=by unfold trim2;rw [t1,if_pos (by rw [g1.e];decide)]
   have t3:trim3 S k=((Dp.append C (snapN (trimF S k)) ⟨(trimB S k).toArray⟩).1,10):=by unfold trim3;rw [t2,if_pos (by rw [g1.e];decide), <-g1.e]
   exact .inl (old _ _ hA1 t3 (.inr ⟨rfl,g1.x⟩) (fun n hn _=>by rw [g1.f,hCf,if_neg hn]) (fun e=>by rw [g1.x] at e;cases e) (.inr g1.x))
 · rw [hCf,if_pos rfl] at g1;cases g1
 · rw [g1] at t1
   obtain ⟨u1,u2⟩:=zgo (D0:=S.d) (R:=(C,9)) (n:=snapN (trimF S k)) rfl hC1 hg hCf
   rw [<-t1] at u1 u2
   have hne:(trim1 S k).2≠0:=by rcases u2 with ⟨a,_⟩ | ⟨a,_⟩<;>rw [a]<;>decide
   have t2:trim2 S k=trim1 S k:=by unfold trim2;rw [if_pos hne]
   have t3:trim3 S k=((trim1 S k).1,(trim1 S k).2):=by unfold trim3;rw [t2,if_pos hne]
   rcases u2 with ⟨a1,a2,a3⟩ | ⟨a1,a2,a3⟩
   · exact .inl (old _ _ u1 t3 (.inr ⟨a1,a2⟩) (fun n hn _=>a3 n hn) (fun e=>by rw [a2] at e;cases e) (.inr a2))
   · exact .inl (old _ _ u1 t3 (.inl a1) (fun n _ _=>a3 n) (fun _=>a3) (.inl hx))
 rw [hCf,if_pos rfl] at g1;obtain rfl:=Option.some.inj g1;rw [zc6 (by rw [hA.e];decide)] at t1;have hAf:=hA.f;have hAe:=hA.e;clear hA
 have t2:trim2 S k=Dp.sync (Dp.append C (snapN (trimF S k)) ⟨(trimB S k).toArray⟩).1 (snapN (trimF S k)):=by unfold trim2;rw [t1,if_neg (by rw [hAe];decide)]
 generalize (Dp.append C (snapN (trimF S k)) ⟨(trimB S k).toArray⟩).1=A at*;have hS1:=zgF hA1 (snapN (trimF S k))
 rcases zc7 hA1 (snapN (trimF S k)) with g1 | ⟨_,g1,_⟩ | ⟨f,g1,hSy⟩
 · have t3:trim3 S k=((Dp.sync A (snapN (trimF S k))).1,10):=by unfold trim3;rw [t2,if_pos (by rw [g1.e];decide), <-g1.e]
   exact .inl (old _ _ hS1 t3 (.inr ⟨rfl,g1.x⟩) (fun n hn _=>by rw [g1.f,hAf,if_neg hn,hCf,if_neg hn]) (fun e=>by rw [g1.x] at e;cases e) (.inr g1.x))
 · rw [hAf,if_pos rfl] at g1;cases g1
 rw [hAf,if_pos rfl] at g1;obtain rfl:=Option.some.inj g1;have hSf:=hSy.f;have hSe:=hSy.e;have hSyy:=hSy.y;clear hSy
 have t3:trim3 S k=undo (swap (Dp.sync A (snapN (trimF S k))).1 (man (trimX S k))) (snapN (trimF S k)):=by unfold trim3;rw [t2,if_neg (by rw [hSe];decide)]
 generalize (Dp.sync A (snapN (trimF S k))).1=Y at*
 have hYf:∀m,get Y.f m=if m=snapN (trimF S k) then some ⟨snapN (trimF S k),(⟨#[]⟩:ByteArray)++⟨(trimB S k).toArray⟩,(((⟨#[]⟩:ByteArray)++⟨(trimB S k).toArray⟩:ByteArray).size:Int)⟩ else get S.d.f m:=fun m=>by
  rw [hSf]
  by_cases e:m=snapN (trimF S k)
  · rw [if_pos e,if_pos e]
  · rw [if_neg e,if_neg e,hAf,if_neg e,hCf,if_neg e]
 have hyn:Y.x=false->get Y.f nn=none:=fun _=>by
  rw [hYf,if_neg hsn.2.symm]
  rcases hh:get S.d.f nn with _ | f
  · rfl
  · exact absurd rfl (hnn nn (h.cl hx nn (by rw [hh];simp)))
 obtain ⟨hW1,_⟩:=zd4 hS1 (man (trimX S k))
 rcases zdL hS1 hmo hyn with g1 | ⟨_,g2,_,g4,_⟩ | hW
 · rw [zc6 (by rw [g1.e];decide)] at t3
   refine .inl (old (swap Y (man (trimX S k))).1 10 hW1 (by rw [t3, <-g1.e]) (.inr ⟨rfl,g1.x⟩) (fun n hn h2=>by rw [g1.f n h2,hYf,if_neg hn]) (fun e=>by rw [g1.x] at e;cases e) (.inr g1.x))
 · obtain ⟨u1,u2⟩:=zgo (D0:=S.d) (n:=snapN (trimF S k)) g2 hW1 hg (fun m=>(g4 m).trans (hYf m))
   rw [<-t3] at u1 u2
   rcases u2 with ⟨a1,a2,a3⟩ | ⟨a1,a2,a3⟩
   · exact .inl (old _ _ u1 rfl (.inr ⟨a1,a2⟩) (fun n hn _=>a3 n hn) (fun e=>by rw [a2] at e;cases e) (.inr a2))
   · exact .inl (old _ _ u1 rfl (.inl a1) (fun n _ _=>a3 n) (fun _=>a3) (.inl hx))
 right
 have hWe:=hW.e;have hWf:=hW.f;have hWy:=hW.y;clear hW;rw [zc6 (by rw [hWe];decide)] at t3;generalize (swap Y (man (trimX S k)))=W at*
 have hKe:trimK S k=({trimX S k with d:=(trim4 S k W.1).1},(trim4 S k W.1).2):=by
  unfold trimK;rw [if_neg (by omega),t3,if_neg (by rw [hWe];decide)]
 rw [hKe]
 have hWg:∀m,m≠nm->m≠snapN (trimF S k)->get W.1.f m=get S.d.f m:=fun m a b=>by rw [hWf,if_neg a,hYf,if_neg b]
 have hWs:get W.1.f (snapN (trimF S k))=some ⟨snapN (trimF S k),(⟨#[]⟩:ByteArray)++⟨(trimB S k).toArray⟩,(((⟨#[]⟩:ByteArray)++⟨(trimB S k).toArray⟩:ByteArray).size:Int)⟩:=by rw [hWf,if_neg hsn.1,hYf,if_pos rfl]
 obtain ⟨b1,b2,b3⟩:=h.bases
 have hsegW:∀a∈S.g,get W.1.f (segN a.b)=get S.d.f (segN a.b):=fun a ha=>by
  have:=b3 a ha;exact hWg _ (zbs (by omega) (by omega)).1 (hnb _ (.inr (.inr ⟨a,ha,rfl⟩)))
 have hlast:lastG (trimX S k)=lastG S:=by
  show (S.g.drop k).getD ((S.g.drop k).length-1) Rt.zero=_;rw [hdk];exact zcr _ _ _
 have hup:=zbx F l1 (l2++r) (by have:=h.up;rw [e2,d1,List.append_assoc] at this;exact this)
 have new:∀D:Dk,Right D->(∀n,Nms (F+l1.length) (S.g.drop k) n->get D.f n=get W.1.f n)->(D.x=false->∀n,get D.f n≠none->Nms (F+l1.length) (S.g.drop k) n)->
  Log q {trimX S k with d:=D} (F+l1.length) (Fp.fold s0 (l1.map fun r=>r.d)) (l2++r):=by
  intro D hR hf hc
  have hfS:∀a∈S.g.drop k,get D.f (segN a.b)=get S.d.f (segN a.b):=fun a ha=>by
   rw [hf _ (.inr (.inr ⟨a,ha,rfl⟩))];exact hsegW a (List.mem_of_mem_drop ha)
  refine ⟨hR,fun y hy=>h.ok y (by rw [<-hdrop] at hy;exact List.mem_of_mem_drop hy),hup.2,?_,?_,by omega,h.fx,by rw [hmX];exact hmo,⟨t.drop k,l2,r,?_,rfl,?_,?_,?_,?_,?_,?_⟩,?_,h.hi,.inr ⟨by omega,hSt,?_,?_,?_⟩,?_,hc⟩
  · show ((S.g.drop k).headD Rt.zero).b=_
    rw [<-hF]
    unfold trimF
    congr 1
    rw [List.headD_eq_head?_getD,List.head?_drop,List.getD_eq_getElem?_getD]
  · show S.x=_
    rw [List.length_append]
    omega
  · show S.g.drop k=_++[lastG (trimX S k)]
    rw [hlast,hdk]
  · exact d3.keep fun a ha=>hfS a (by rw [hdk];exact List.mem_append_left _ ha)
  · show (lastG (trimX S k)).b=_
    rw [hlast,e4,d1,List.length_append]
    omega
  · show (lastG (trimX S k)).n=_
    rw [hlast];exact e5
  · show Tail D (lastG (trimX S k)).b r S.s
    rw [hlast]
    exact e6.keep (hfS _ (by rw [hdk];simp))
  · show (lastG (trimX S k)).z=_
    rw [hlast];exact e7
  · show (lastG (trimX S k)).z<=_
    rw [hlast];exact e8
  · show (lastG (trimX S k)).b<=S.s
    rw [hlast];exact h.lo
  · show ((trimB S k).length:Int)=_
    rw [hB]
  · show (Cp.sum 0 (trimB S k):Int)=_
    rw [hB]
  · refine ⟨_,(hf _ (.inr (.inl ⟨by omega,rfl⟩))).trans (by rw [<-hF];exact hWs),?_,rfl⟩
    rw [hB]
    simp
  · rw [hmX]
    exact ⟨_,(hf nm (.inl rfl)).trans ((hWf nm).trans (if_pos rfl)),rfl,rfl⟩
 have hb2:∀a∈S.g.take k,0<=a.b/\a.b<=1099511627776:=fun a ha=>by
  have:=b3 a (List.mem_of_mem_take ha);omega
 have hd2:=d2;rw [<-htk] at hd2
 have hdel:∀n,Nms (F+l1.length) (S.g.drop k) n->∀a∈S.g.take k,n≠segN a.b:=fun n hn a ha=>by
  have ha1:=hd2.bases a ha;have ha2:=hb2 a ha
  rcases hn with rfl | ⟨_,rfl⟩ | ⟨c,hc,rfl⟩
  · exact (zbs (by omega) (by omega)).1.symm
  · exact zbn (by omega) (by omega) (by omega) (by omega)
  · have hc1:=b3 c (List.mem_of_mem_drop hc)
    have hc2:F+(l1.length:Int)<=c.b:=by
     rw [hdk] at hc
     rcases List.mem_append.1 hc with hc | hc
     · exact (d3.bases c hc).1
     · rw [List.mem_singleton] at hc
       rw [hc,e4,d1,List.length_append]
       omega
    intro e;have:=zc9 (by omega) (by omega) (by omega) (by omega) e;omega
 obtain ⟨u1,u2⟩:=zdI (S.g.take k) hW1 hWy hd2.pair hb2 (fun a ha=>by
  rw [hsegW a (List.mem_of_mem_take ha)];rw [htk] at ha
  exact d2.there a ha)
 rcases u2 with ⟨a1,a2,a3⟩ | ⟨a1,a2,a3,a4⟩
 · have e4:trim4 S k W.1=delSegs W.1 (S.g.take k):=by unfold trim4;rw [if_neg fun h=>by rw [a1] at h;exact absurd h.1 (by decide)]
   rw [e4]
   exact ⟨new _ u1 (fun n hn=>a3 n (hdel n hn)) (fun e=>by rw [a2] at e;cases e),.inr ⟨a1,a2⟩,rfl⟩
 by_cases hF0:0<F
 · have e4:trim4 S k W.1=delete (delSegs W.1 (S.g.take k)).1 (snapN F):=by unfold trim4;rw [h.fl,if_pos ⟨a1,hF0⟩]
   rw [e4]
   generalize (delSegs W.1 (S.g.take k)).1=V at*;have hR:=zdX u1 (snapN F)
   have hns:∀n,Nms (F+l1.length) (S.g.drop k) n->n≠snapN F:=fun n hn=>by
    rcases hn with rfl | ⟨_,rfl⟩ | ⟨c,hc,rfl⟩
    · exact (zc8 (by omega) (by omega)).1.symm
    · intro e
      have:=zgz (by omega) (by omega) (by omega) (by omega) e
      omega
    · have hc1:=b3 c (List.mem_of_mem_drop hc)
      exact (zbn (by omega) (by omega) (by omega) (by omega)).symm
   rcases zbp u1 (snapN F) with g | ⟨_,g,_⟩ | ⟨_,hD⟩
   · exact ⟨new _ hR (fun n hn=>by rw [g.f];exact a3 n (hdel n hn)) (fun e=>by rw [g.x] at e;cases e),.inr ⟨g.e,g.x⟩,rfl⟩
   · exfalso
     rw [a3 _ fun a ha=>by have:=hb2 a ha;exact zbn (by omega) (by omega) (by omega) (by omega)] at g
     rw [hWg _ (zc8 (by omega) (by omega)).1 (hnb _ (.inr (.inl ⟨hF0,rfl⟩)))] at g
     rcases h.sn with ⟨h1,_⟩ | ⟨_,_,_,_,f,h2,_⟩
     · omega
     · rw [h2] at g;cases g
   · refine ⟨new _ hR (fun n hn=>by rw [hD.f,if_neg (hns n hn)];exact a3 n (hdel n hn)) (fun _ n hn=>?_),.inl hD.e,rfl⟩
     rw [hD.f] at hn
     by_cases en:n=snapN F
     · rw [if_pos en] at hn;exact absurd rfl hn
     rw [if_neg en] at hn
     by_cases ed:∃a∈S.g.take k,n=segN a.b
     · obtain ⟨a,ha,rfl⟩:=ed
       exact absurd (a4 a ha) hn
     rw [a3 n fun a ha e=>ed ⟨a,ha,e⟩] at hn
     by_cases e1:n=nm
     · exact .inl e1
     by_cases e2:n=snapN (trimF S k)
     · exact .inr (.inl ⟨by omega,by rw [<-hF];exact e2⟩)
     rw [hWg n e1 e2] at hn
     rcases h.cl hx n hn with h1 | ⟨_,h1⟩ | ⟨a,ha,h1⟩
     · exact .inl h1
     · exact absurd h1 en
     · rw [<-List.take_append_drop k S.g] at ha
       rcases List.mem_append.1 ha with ha | ha
       · exact absurd ⟨a,ha,h1⟩ ed
       · exact .inr (.inr ⟨a,ha,h1⟩)
 · have e4:trim4 S k W.1=delSegs W.1 (S.g.take k):=by unfold trim4;rw [h.fl,if_neg fun h=>hF0 h.2]
   rw [e4]
   refine ⟨new _ u1 (fun n hn=>a3 n (hdel n hn)) (fun _ n hn=>?_),.inl a1,rfl⟩
   by_cases ed:∃a∈S.g.take k,n=segN a.b
   · obtain ⟨a,ha,rfl⟩:=ed
     exact absurd (a4 a ha) hn
   rw [a3 n fun a ha e=>ed ⟨a,ha,e⟩] at hn
   by_cases e1:n=nm
   · exact .inl e1
   by_cases e2:n=snapN (trimF S k)
   · exact .inr (.inl ⟨by omega,by rw [<-hF];exact e2⟩)
   rw [hWg n e1 e2] at hn
   rcases h.cl hx n hn with h1 | ⟨h1,_⟩ | ⟨a,ha,h1⟩
   · exact .inl h1
   · exact absurd h1 hF0
   · rw [<-List.take_append_drop k S.g] at ha
     rcases List.mem_append.1 ha with ha | ha
     · exact absurd ⟨a,ha,h1⟩ ed
     · exact .inr (.inr ⟨a,ha,h1⟩)
end Lg
end Go.Proofs.YtooipogbmfkeeaaGreat

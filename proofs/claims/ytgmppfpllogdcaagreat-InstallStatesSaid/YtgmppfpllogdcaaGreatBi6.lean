/-
  Parts of what the laws of this seat stand on:LogTrim,LogCrash.
-/
import Derived.Test.YtgmppfpllogdcaaGreatBi1
import Derived.Test.YtgmppfpllogdcaaGreatBi5
set_option maxRecDepth 100000
set_option maxHeartbeats 6400000
namespace Go.Proofs.YtgmppfpllogdcaaGreat
namespace Lg
open Dp So
variable {q F:Int} {S:St} {s0:List Fp.Pr} {rs:List Rp.Rec}
def undo (R:Dk×Int) (n:ByteArray):Dk×Int:=if R.2=9 then ((delete R.1 n).1,if (delete R.1 n).2=0 then 9 else (delete R.1 n).2) else R
def delSegs:Dk->List Rt.Sg->Dk×Int
 | D,[]=>(D,0)
 | D,g::t=>if (delete D (segN g.b)).2≠0 then delete D (segN g.b) else delSegs (delete D (segN g.b)).1 t
def trimF (S:St) (k:Nat):Int:=(S.g.getD k Rt.zero).b
noncomputable def trimB (S:St) (k:Nat):List UInt8:=Fp.bytes (stateT S (trimF S k))
noncomputable def trimX (S:St) (k:Nat):St:={S with v:=S.v+1,g:=S.g.drop k,z:=((trimB S k).length:Int),c:=(Cp.sum 0 (trimB S k):Int)}
noncomputable def trim1 (S:St) (k:Nat):Dk×Int:=if (create S.d (snapN (trimF S k))).2≠0 then create S.d (snapN (trimF S k)) else undo (Dp.append (create S.d (snapN (trimF S k))).1 (snapN (trimF S k)) ⟨(trimB S k).toArray⟩) (snapN (trimF S k))
noncomputable def trim2 (S:St) (k:Nat):Dk×Int:=if (trim1 S k).2≠0 then trim1 S k else Dp.sync (trim1 S k).1 (snapN (trimF S k))
noncomputable def trim3 (S:St) (k:Nat):Dk×Int:=if (trim2 S k).2≠0 then trim2 S k else undo (swap (trim2 S k).1 (man (trimX S k))) (snapN (trimF S k))
def trim4 (S:St) (k:Nat) (D:Dk):Dk×Int:=if (delSegs D (S.g.take k)).2=0/\0<floor S then delete (delSegs D (S.g.take k)).1 (snapN (floor S)) else delSegs D (S.g.take k)
noncomputable def trimK (S:St) (k:Nat):St×Int:=
 if k=0 then (S,0) else if (trim3 S k).2≠0 then ({S with d:=(trim3 S k).1},(trim3 S k).2)
 else ({trimX S k with d:=(trim4 S k (trim3 S k).1).1},(trim4 S k (trim3 S k).1).2)
theorem zd9 {D0:Dk} {R:Dk×Int} {n:ByteArray} {E:Fl} (h9:R.2=9) (hR:Right R.1) (hn:get D0.f n=none) (hf:∀m,get R.1.f m=if m=n then some E else get D0.f m):
 Right (undo R n).1/\(((undo R n).2=10/\(undo R n).1.x=true/\∀m,m≠n->get (undo R n).1.f m=get D0.f m)\/((undo R n).2=9/\(undo R n).1.x=false/\∀m,get (undo R n).1.f m=get D0.f m)):=by
 unfold undo;rw [if_pos h9];refine ⟨zcL hR n,?_⟩
 rcases zaP hR n with h | ⟨_,h,_⟩ | ⟨_,hD⟩
 · rw [if_neg (by rw [h.e];decide)]
   exact .inl ⟨h.e,h.x,fun m hm=>by show get (delete R.1 n).1.f m=_;rw [h.f,hf,if_neg hm]⟩
 · rw [hf,if_pos rfl] at h;cases h
 · rw [if_pos hD.e]
   refine .inr ⟨rfl,hD.y,fun m=>?_⟩
   show get (delete R.1 n).1.f m=_;rw [hD.f]
   by_cases e:m=n
   · rw [if_pos e,e,hn]
   · rw [if_neg e,hf,if_neg e]
theorem zbP {R:Dk×Int} {n:ByteArray} (h:R.2≠9):undo R n=R:=if_neg h
theorem Fulls.split {D:Dk} {q:Int}:∀{t:List Rt.Sg} {b:Int} {rs:List Rp.Rec} (k:Nat),Fulls D q t b rs->k<=t.length->
 ∃l1 l2,rs=l1++l2/\Fulls D q (t.take k) b l1/\Fulls D q (t.drop k) (b+l1.length) l2/\(0<k->l1≠[])/\(k<t.length->(t.getD k Rt.zero).b=b+l1.length)/\(k=t.length->l2=[])
 | t,b,rs,0,h,_=>⟨[],rs,rfl,by rw [List.take_zero];rfl,by rw [List.drop_zero];simpa using h,fun h=>absurd h (Nat.lt_irrefl 0),fun hk=>by
  cases t with
  | nil=>simp at hk
  | cons g t=>simpa using h.1,fun hk=>by
  cases t with
  | nil=>exact h
  | cons g t=>simp at hk⟩
 | g::t,b,rs,k+1,⟨h1,l,r,h2,h3,h4,h5,h6,h7,h8,h9⟩,hk=>by
  obtain ⟨l1,l2,e1,e2,e3,e4,e5,e6⟩:=h9.split k (by simpa using hk);refine ⟨l++l1,l2,by rw [h2,e1,List.append_assoc],?_,?_,fun _=>by simp [h3],fun h=>?_,fun h=>e6 (by simpa using h)⟩
  · rw [List.take_succ_cons]
    exact ⟨h1,l,l1,rfl,h3,h4,h5,h6,h7,h8,e2⟩
  · rw [List.drop_succ_cons,List.length_append]
    rw [h4] at e3
    rw [show b+((l.length+l1.length:Nat):Int)=b+(l.length:Int)+(l1.length:Int) from by omega];exact e3
  · have:=e5 (by simpa using h)
    rw [h4] at this
    simp only [List.getD_cons_succ,List.length_append];omega
theorem Fulls.pair {D:Dk} {q:Int}:∀{t:List Rt.Sg} {b:Int} {rs:List Rp.Rec},Fulls D q t b rs->t.Pairwise fun a b=>a.b<b.b
 | [],_,_,_=>List.Pairwise.nil
 | g::t,b,rs,⟨h1,l,r,h2,h3,h4,h5,h6,h7,h8,h9⟩=>List.Pairwise.cons (fun a ha=>by
  have:=h9.bases a ha;have:=List.length_pos_iff.2 h3
  omega) h9.pair
theorem Fulls.there {D:Dk} {q:Int}:∀{t:List Rt.Sg} {b:Int} {rs:List Rp.Rec},Fulls D q t b rs->∀a∈t,get D.f (segN a.b)≠none
 | [],_,_,_,a,ha=>by cases ha
 | g::t,b,rs,⟨h1,l,r,h2,h3,h4,h5,h6,h7,h8,h9⟩,a,ha=>by
  rcases List.mem_cons.1 ha with rfl | ha
  · obtain ⟨f,h,_⟩:=h5
    rw [h1,h];simp
  · exact h9.there a ha
theorem zcE:∀(t:List Rt.Sg) {D:Dk},Right D->D.x=false->t.Pairwise (fun a b=>a.b<b.b)->(∀a∈t,0<=a.b/\a.b<=1099511627776)->(∀a∈t,get D.f (segN a.b)≠none)->
 Right (delSegs D t).1/\(((delSegs D t).2=10/\(delSegs D t).1.x=true/\∀n,(∀a∈t,n≠segN a.b)->get (delSegs D t).1.f n=get D.f n)\/
  ((delSegs D t).2=0/\(delSegs D t).1.x=false/\(∀n,(∀a∈t,n≠segN a.b)->get (delSegs D t).1.f n=get D.f n)/\∀a∈t,get (delSegs D t).1.f (segN a.b)=none))
 | [],D,hR,hx,_,_,_=>⟨hR,.inr ⟨rfl,hx,fun _ _=>rfl,fun a ha=>by cases ha⟩⟩
 | g::t,D,hR,hx,hp,hb,hg=>by
  have hp':=List.pairwise_cons.1 hp;have hR':=zcL hR (segN g.b)
  have hne:∀a∈t,segN a.b≠segN g.b:=fun a ha e=>by
   have h1:=hb a (mcm ha);have h2:=hb g mcs;have h3:=hp'.1 a ha;have:=zcw h1.1 h1.2 h2.1 h2.2 e;omega
  unfold delSegs
  rcases zaP hR (segN g.b) with h | ⟨_,h,_⟩ | ⟨_,hD⟩
  · rw [if_pos (by rw [h.e];decide)]
    exact ⟨hR',.inl ⟨h.e,h.x,fun n _=>by rw [h.f]⟩⟩
  · exact absurd h (hg g mcs)
  · rw [if_neg (by rw [hD.e];decide)]
    have hDf:=hD.f
    have hDy:=hD.y;clear hD;generalize (delete D (segN g.b)).1=E at*
    obtain ⟨i1,i2⟩:=zcE t hR' hDy hp'.2 (fun a ha=>hb a (mcm ha)) (fun a ha=>by
     rw [hDf,if_neg (hne a ha)]
     exact hg a (mcm ha))
    refine ⟨i1,?_⟩
    rcases i2 with ⟨a1,a2,a3⟩ | ⟨a1,a2,a3,a4⟩
    · exact .inl ⟨a1,a2,fun n hn=>by rw [a3 n fun a ha=>hn a (mcm ha),hDf,if_neg (hn g mcs)]⟩
    · refine .inr ⟨a1,a2,fun n hn=>by rw [a3 n fun a ha=>hn a (mcm ha),hDf,if_neg (hn g mcs)],fun a ha=>?_⟩
      rcases List.mem_cons.1 ha with rfl | ha
      · rw [a3 _ fun b hb'=>(hne b hb').symm,hDf,if_pos rfl]
      · exact a4 a ha
theorem sum_lt (L:List UInt8):Cp.sum 0 L<4294967296:=by unfold Cp.sum Cp.turn;omega
theorem zg3 {l:List Fp.Pr} (h:Fp.St l):1<=(Fp.bytes l).length/\(Fp.bytes l).length<=20000:=by
 have h1:=Fp.flat_len l 63 fun p hp=>(h.1 p hp).2;have h2:=h.2.len;have h3:=Vp.put_len_le l.length;have h4:1<=(Vp.put l.length).length:=Vp.put_len_pos _;have h5:l.length*(10+63)<=256*73:=Nat.mul_le_mul h2 (Nat.le_refl _);unfold Fp.bytes;rw [List.length_append];omega
theorem man_drop {v z c z' c':Int} {l:List Int} (h:Qm.Ok ⟨v,l,z,c⟩) {k:Nat} (hk:k<l.length) (hv:v<1099511627776) (hp:l.getD k 0≠0) (hz:1<=z'/\z'<=65536) (hc:0<=c'/\c'<4294967296):Qm.Ok ⟨v+1,l.drop k,z',c'⟩:=by
 have hg:∀i,(l.drop k).getD i 0=l.getD (k+i) 0:=fun i=>by simp [List.getD_eq_getElem?_getD,List.getElem?_drop]
 have n1:l.length<=64:=h.n1;have v0:1<=v:=h.v0;refine ⟨by show 1<=v+1;omega,by show v+1<=_;omega,by show 1<=(l.drop k).length;rw [List.length_drop];omega,by show (l.drop k).length<=64;rw [List.length_drop];omega,fun i hi=>?_,.inr ⟨?_,hz⟩,hc⟩
 · have hi':i<l.length-k:=by have:i<(l.drop k).length:=hi;rwa [List.length_drop] at this
   have:=h.at_ (k+i) (by show k+i<l.length;omega)
   show Qm.AtOk (l.drop k) i;unfold Qm.AtOk;rw [hg];refine ⟨this.1,this.2.1,fun h0=>?_⟩;rw [hg,show k+(i-1)=k+i-1 from by omega];exact this.2.2 (by omega)
 · show (l.drop k).getD 0 0≠0
   rw [hg]
   exact hp
theorem map_at (l:List Rt.Sg) (k:Nat):(l.map fun g:Rt.Sg=>g.b).getD k 0=(l.getD k Rt.zero).b:=by
 simp only [List.getD_eq_getElem?_getD,List.getElem?_map]
 rcases l[k]? with _ | a<;>rfl
theorem Log.trim (h:Log q S F s0 rs) {k:Nat} (h0:0<k) (hk:k<S.g.length) (hv:S.v<1099511627776):
 ∃m:Nat,0<m/\m<=rs.length/\trimF S k=F+m/\
  ((Log q (trimK S k).1 F s0 rs/\((trimK S k).2=9\/((trimK S k).2=10/\(trimK S k).1.d.x=true))/\(trimK S k).1={S with d:=(trimK S k).1.d})\/
   (Log q (trimK S k).1 (F+m) (Fp.fold s0 ((rs.take m).map fun r=>r.d)) (rs.drop m)/\((trimK S k).2=0\/((trimK S k).2=10/\(trimK S k).1.d.x=true))/\(trimK S k).1={trimX S k with d:=(trimK S k).1.d})):=by
 obtain ⟨t,l,r,e1,e2,e3,e4,e5,e6,e7,e8⟩:=h.seg;have hf0:=h.f0;have hfx:=h.fx;have hX:=h.x
 have hkt:k<=t.length:=by rw [e1] at hk;simp at hk;omega
 obtain ⟨l1,l2,d1,d2,d3,d4,d5,d6⟩:=e3.split k hkt;have hm0:0<l1.length:=List.length_pos_iff.2 (d4 h0)
 have hlen:rs.length=l1.length+l2.length+r.length:=by rw [e2,d1,List.length_append,List.length_append]
 have htk:S.g.take k=t.take k:=by rw [e1,List.take_append_of_le_length hkt]
 have hdk:S.g.drop k=t.drop k++[lastG S]:=by conv=>lhs;rw [e1,List.drop_append_of_le_length hkt]
 have hF:trimF S k=F+l1.length:=by
  unfold trimF
  by_cases e:k<t.length
  · rw [<-d5 e]
    congr 1
    conv=>lhs;rw [e1]
    simp [List.getD_eq_getElem?_getD,List.getElem?_append_left e]
  · obtain rfl:k=t.length:=by omega
    have:S.g.getD t.length Rt.zero=lastG S:=by
     conv=>lhs;rw [e1]
     simp [List.getD_eq_getElem?_getD]
    rw [this,e4,d1,d6 rfl,List.append_nil]
 refine ⟨l1.length,hm0,by omega,hF,?_⟩
 have htake:rs.take l1.length=l1:=by rw [e2,d1,List.append_assoc,List.take_left]
 have hdrop:rs.drop l1.length=l2++r:=by rw [e2,d1,List.append_assoc,List.drop_left]
 rw [htake,hdrop]
 have hst:stateT S (F+(l1.length:Int))=Fp.fold s0 (l1.map fun r=>r.d):=by rw [h.state (by omega),htake]
 have hB:trimB S k=Fp.bytes (Fp.fold s0 (l1.map fun r=>r.d)):=by unfold trimB;rw [hF,hst]
 have hSt:Fp.St (Fp.fold s0 (l1.map fun r=>r.d)):=h.snap.2.2.fold fun s hs=>by
  obtain ⟨r',hr',rfl⟩:=List.mem_map.1 hs;exact (h.ok r' (by rw [<-htake] at hr';exact List.mem_of_mem_take hr')).2.2.2.2
 have hbl:=zg3 hSt
 have hmX:∀D,man {trimX S k with d:=D}=man (trimX S k):=fun D=>rfl
 have hmo:Qm.Ok (man (trimX S k)):=by
  have hmo:=h.mo;have hF':=hF;unfold trimF at hF';have:=man_drop (k:=k) hmo (by show k<(S.g.map _).length;rw [List.length_map];exact hk) hv (by show (S.g.map fun g:Rt.Sg=>g.b).getD k 0≠0;rw [map_at];omega) (z':=((trimB S k).length:Int)) (c':=(Cp.sum 0 (trimB S k):Int)) (by rw [hB];omega) (by have:=sum_lt (trimB S k);omega)
  have e:man (trimX S k)=⟨S.v+1,(S.g.map (fun g:Rt.Sg=>g.b)).drop k,((trimB S k).length:Int),(Cp.sum 0 (trimB S k):Int)⟩:=by
   unfold man trimX;dsimp only;rw [List.map_drop]
  rw [e];exact this
 have hnb:∀n,Nms F S.g n->n≠snapN (trimF S k):=fun n hn=>by
  obtain ⟨b1,b2,b3⟩:=h.bases;rw [hF]
  rcases hn with rfl | ⟨_,rfl⟩ | ⟨a,ha,rfl⟩
  · exact (zbC (by omega) (by omega)).1.symm
  · intro e
    have:=zdl (by omega) (by omega) (by omega) (by omega) e
    omega
  · have:=b3 a ha
    exact (zaz (by omega) (by omega) (by omega) (by omega)).symm
 have hnn:∀n,Nms F S.g n->n≠nn:=fun n hn=>h.not_nn hn
 have hsn:snapN (trimF S k)≠nm/\snapN (trimF S k)≠nn:=by rw [hF];exact zbC (by omega) (by omega)
 have hname:Named (snapN (trimF S k)):=by rw [hF];exact ze1 (by omega) (by omega)
 have old:∀(D:Dk) (e:Int),Right D->trim3 S k=(D,e)->(e=9\/(e=10/\D.x=true))->(∀n,n≠snapN (trimF S k)->n≠nn->get D.f n=get S.d.f n)->(D.x=false->∀n,get D.f n=get S.d.f n)->S.d.x=false\/D.x=true->
  Log q (trimK S k).1 F s0 rs/\((trimK S k).2=9\/((trimK S k).2=10/\(trimK S k).1.d.x=true))/\(trimK S k).1={S with d:=(trimK S k).1.d}:=by
  intro D e hR h3 he hf hc hd
  have hne:(trim3 S k).2≠0:=by rw [h3];rcases he with h | ⟨h,_⟩<;>(show e≠0;omega)
  unfold trimK;rw [if_neg (by omega),if_pos hne,h3];refine ⟨h.disk hR (fun n hn=>hf n (hnb n hn) (hnn n hn)) fun e n hn=>?_,he,rfl⟩
  rcases hd with hd | hd
  · rw [hc e] at hn
    exact h.cl hd n hn
  · rw [hd] at e;cases e
 have hC1:=zdn h.dr (snapN (trimF S k))
 rcases zbn h.dr hname with g1 | ⟨g1,g2,_⟩ | ⟨hg,hC⟩
 · have t1:trim1 S k=((create S.d (snapN (trimF S k))).1,10):=by
    unfold trim1;rw [if_pos (by rw [g1.e];decide), <-g1.e]
   have t3:trim3 S k=((create S.d (snapN (trimF S k))).1,10):=by
    have t2:trim2 S k=((create S.d (snapN (trimF S k))).1,10):=by unfold trim2;rw [t1,if_pos (by show (10:Int)≠0;decide)]
    unfold trim3;rw [t2,if_pos (by show (10:Int)≠0;decide)]
   exact .inl (old _ _ hC1 t3 (.inr ⟨rfl,g1.x⟩) (fun n _ _=>by rw [g1.f]) (fun _ n=>by rw [g1.f]) (.inr g1.x))
 · exact absurd rfl (hnb _ (h.cl g1 _ g2))
 have hx:=hC.x;have hCf:=hC.f;have hCy:=hC.y
 have t1:trim1 S k=undo (Dp.append (create S.d (snapN (trimF S k))).1 (snapN (trimF S k)) ⟨(trimB S k).toArray⟩) (snapN (trimF S k)):=by
  unfold trim1;rw [if_neg (by rw [hC.e];decide)]
 clear hC;generalize (create S.d (snapN (trimF S k))).1=C at*;have hA1:=zeU hC1 (snapN (trimF S k)) ⟨(trimB S k).toArray⟩
 rcases zb5 hC1 (snapN (trimF S k)) ⟨(trimB S k).toArray⟩ with g1 | ⟨_,g1,_⟩ | ⟨_,_,g1⟩ | ⟨f,g1,hA⟩
 · rw [zbP (by rw [g1.e];decide)] at t1
   have t2:trim2 S k=Dp.append C (snapN (trimF S k)) ⟨(trimB S k).toArray⟩:=by unfold trim2;rw [t1,if_pos (by rw [g1.e];decide)]
   have t3:trim3 S k=((Dp.append C (snapN (trimF S k)) ⟨(trimB S k).toArray⟩).1,10):=by unfold trim3;rw [t2,if_pos (by rw [g1.e];decide), <-g1.e]
   exact .inl (old _ _ hA1 t3 (.inr ⟨rfl,g1.x⟩) (fun n hn _=>by rw [g1.f,hCf,if_neg hn]) (fun e=>by rw [g1.x] at e;cases e) (.inr g1.x))
 · rw [hCf,if_pos rfl] at g1;cases g1
 · rw [g1] at t1
   obtain ⟨u1,u2⟩:=zd9 (D0:=S.d) (R:=(C,9)) (n:=snapN (trimF S k)) rfl hC1 hg hCf
   rw [<-t1] at u1 u2
   have hne:(trim1 S k).2≠0:=by rcases u2 with ⟨a,_⟩ | ⟨a,_⟩<;>rw [a]<;>decide
   have t2:trim2 S k=trim1 S k:=by unfold trim2;rw [if_pos hne]
   have t3:trim3 S k=((trim1 S k).1,(trim1 S k).2):=by unfold trim3;rw [t2,if_pos hne]
   rcases u2 with ⟨a1,a2,a3⟩ | ⟨a1,a2,a3⟩
   · exact .inl (old _ _ u1 t3 (.inr ⟨a1,a2⟩) (fun n hn _=>a3 n hn) (fun e=>by rw [a2] at e;cases e) (.inr a2))
   · exact .inl (old _ _ u1 t3 (.inl a1) (fun n _ _=>a3 n) (fun _=>a3) (.inl hx))
 rw [hCf,if_pos rfl] at g1;obtain rfl:=Option.some.inj g1;rw [zbP (by rw [hA.e];decide)] at t1;have hAf:=hA.f;have hAe:=hA.e;clear hA
 have t2:trim2 S k=Dp.sync (Dp.append C (snapN (trimF S k)) ⟨(trimB S k).toArray⟩).1 (snapN (trimF S k)):=by unfold trim2;rw [t1,if_neg (by rw [hAe];decide)]
 generalize (Dp.append C (snapN (trimF S k)) ⟨(trimB S k).toArray⟩).1=A at*;have hS1:=zeT hA1 (snapN (trimF S k))
 rcases zcd hA1 (snapN (trimF S k)) with g1 | ⟨_,g1,_⟩ | ⟨f,g1,hSy⟩
 · have t3:trim3 S k=((Dp.sync A (snapN (trimF S k))).1,10):=by unfold trim3;rw [t2,if_pos (by rw [g1.e];decide), <-g1.e]
   exact .inl (old _ _ hS1 t3 (.inr ⟨rfl,g1.x⟩) (fun n hn _=>by rw [g1.f,hAf,if_neg hn,hCf,if_neg hn]) (fun e=>by rw [g1.x] at e;cases e) (.inr g1.x))
 · rw [hAf,if_pos rfl] at g1;cases g1
 rw [hAf,if_pos rfl] at g1;obtain rfl:=Option.some.inj g1;have hSf:=hSy.f;have hSe:=hSy.e;have hSyy:=hSy.y;clear hSy
 have t3:trim3 S k=undo (swap (Dp.sync A (snapN (trimF S k))).1 (man (trimX S k))) (snapN (trimF S k)):=by unfold trim3;rw [t2,if_neg (by rw [hSe];decide)]
 generalize (Dp.sync A (snapN (trimF S k))).1=Y at*
 have hYf:∀m,get Y.f m=if m=snapN (trimF S k) then some ⟨snapN (trimF S k),(⟨#[]⟩:ByteArray)++⟨(trimB S k).toArray⟩,(((⟨#[]⟩:ByteArray)++⟨(trimB S k).toArray⟩:ByteArray).size:Int)⟩ else get S.d.f m:=fun m=>by
  rw [hSf]
  by_cases e:m=snapN (trimF S k)
  · rw [if_pos e,if_pos e]
  · rw [if_neg e,if_neg e,hAf,if_neg e,hCf,if_neg e]
 have hyn:Y.x=false->get Y.f nn=none:=fun _=>by
  rw [hYf,if_neg hsn.2.symm]
  rcases hh:get S.d.f nn with _ | f
  · rfl
  · exact absurd rfl (hnn nn (h.cl hx nn (by rw [hh];simp)))
 obtain ⟨hW1,_⟩:=zdk hS1 (man (trimX S k))
 rcases zcX hS1 hmo hyn with g1 | ⟨_,g2,_,g4,_⟩ | hW
 · rw [zbP (by rw [g1.e];decide)] at t3
   refine .inl (old (swap Y (man (trimX S k))).1 10 hW1 (by rw [t3, <-g1.e]) (.inr ⟨rfl,g1.x⟩) (fun n hn h2=>by rw [g1.f n h2,hYf,if_neg hn]) (fun e=>by rw [g1.x] at e;cases e) (.inr g1.x))
 · obtain ⟨u1,u2⟩:=zd9 (D0:=S.d) (n:=snapN (trimF S k)) g2 hW1 hg (fun m=>(g4 m).trans (hYf m))
   rw [<-t3] at u1 u2
   rcases u2 with ⟨a1,a2,a3⟩ | ⟨a1,a2,a3⟩
   · exact .inl (old _ _ u1 rfl (.inr ⟨a1,a2⟩) (fun n hn _=>a3 n hn) (fun e=>by rw [a2] at e;cases e) (.inr a2))
   · exact .inl (old _ _ u1 rfl (.inl a1) (fun n _ _=>a3 n) (fun _=>a3) (.inl hx))
 right
 have hWe:=hW.e;have hWf:=hW.f;have hWy:=hW.y;clear hW;rw [zbP (by rw [hWe];decide)] at t3;generalize (swap Y (man (trimX S k)))=W at*
 have hKe:trimK S k=({trimX S k with d:=(trim4 S k W.1).1},(trim4 S k W.1).2):=by
  unfold trimK;rw [if_neg (by omega),t3,if_neg (by rw [hWe];decide)]
 rw [hKe]
 have hWg:∀m,m≠nm->m≠snapN (trimF S k)->get W.1.f m=get S.d.f m:=fun m a b=>by rw [hWf,if_neg a,hYf,if_neg b]
 have hWs:get W.1.f (snapN (trimF S k))=some ⟨snapN (trimF S k),(⟨#[]⟩:ByteArray)++⟨(trimB S k).toArray⟩,(((⟨#[]⟩:ByteArray)++⟨(trimB S k).toArray⟩:ByteArray).size:Int)⟩:=by rw [hWf,if_neg hsn.1,hYf,if_pos rfl]
 obtain ⟨b1,b2,b3⟩:=h.bases
 have hsegW:∀a∈S.g,get W.1.f (segN a.b)=get S.d.f (segN a.b):=fun a ha=>by
  have:=b3 a ha;exact hWg _ (za2 (by omega) (by omega)).1 (hnb _ (.inr (.inr ⟨a,ha,rfl⟩)))
 have hlast:lastG (trimX S k)=lastG S:=by
  show (S.g.drop k).getD ((S.g.drop k).length-1) Rt.zero=_;rw [hdk];exact zcm _ _ _
 have hup:=zbw F l1 (l2++r) (by have:=h.up;rw [e2,d1,List.append_assoc] at this;exact this)
 have new:∀D:Dk,Right D->(∀n,Nms (F+l1.length) (S.g.drop k) n->get D.f n=get W.1.f n)->(D.x=false->∀n,get D.f n≠none->Nms (F+l1.length) (S.g.drop k) n)->
  Log q {trimX S k with d:=D} (F+l1.length) (Fp.fold s0 (l1.map fun r=>r.d)) (l2++r):=by
  intro D hR hf hc
  have hfS:∀a∈S.g.drop k,get D.f (segN a.b)=get S.d.f (segN a.b):=fun a ha=>by
   rw [hf _ (.inr (.inr ⟨a,ha,rfl⟩))];exact hsegW a (List.mem_of_mem_drop ha)
  refine ⟨hR,fun y hy=>h.ok y (by rw [<-hdrop] at hy;exact List.mem_of_mem_drop hy),hup.2,?_,?_,by omega,h.fx,by rw [hmX];exact hmo,⟨t.drop k,l2,r,?_,rfl,?_,?_,?_,?_,?_,?_⟩,?_,h.hi,.inr ⟨by omega,hSt,?_,?_,?_⟩,?_,hc⟩
  · show ((S.g.drop k).headD Rt.zero).b=_
    rw [<-hF]
    unfold trimF
    congr 1
    rw [List.headD_eq_head?_getD,List.head?_drop,List.getD_eq_getElem?_getD]
  · show S.x=_
    rw [List.length_append]
    omega
  · show S.g.drop k=_++[lastG (trimX S k)]
    rw [hlast,hdk]
  · exact d3.keep fun a ha=>hfS a (by rw [hdk];exact List.mem_append_left _ ha)
  · show (lastG (trimX S k)).b=_
    rw [hlast,e4,d1,List.length_append]
    omega
  · show (lastG (trimX S k)).n=_
    rw [hlast];exact e5
  · show Tail D (lastG (trimX S k)).b r S.s
    rw [hlast]
    exact e6.keep (hfS _ (by rw [hdk];simp))
  · show (lastG (trimX S k)).z=_
    rw [hlast];exact e7
  · show (lastG (trimX S k)).z<=_
    rw [hlast];exact e8
  · show (lastG (trimX S k)).b<=S.s
    rw [hlast];exact h.lo
  · show ((trimB S k).length:Int)=_
    rw [hB]
  · show (Cp.sum 0 (trimB S k):Int)=_
    rw [hB]
  · refine ⟨_,(hf _ (.inr (.inl ⟨by omega,rfl⟩))).trans (by rw [<-hF];exact hWs),?_,rfl⟩
    rw [hB]
    simp
  · rw [hmX]
    exact ⟨_,(hf nm (.inl rfl)).trans ((hWf nm).trans (if_pos rfl)),rfl,rfl⟩
 have hb2:∀a∈S.g.take k,0<=a.b/\a.b<=1099511627776:=fun a ha=>by
  have:=b3 a (List.mem_of_mem_take ha);omega
 have hd2:=d2;rw [<-htk] at hd2
 have hdel:∀n,Nms (F+l1.length) (S.g.drop k) n->∀a∈S.g.take k,n≠segN a.b:=fun n hn a ha=>by
  have ha1:=hd2.bases a ha;have ha2:=hb2 a ha
  rcases hn with rfl | ⟨_,rfl⟩ | ⟨c,hc,rfl⟩
  · exact (za2 (by omega) (by omega)).1.symm
  · exact zaz (by omega) (by omega) (by omega) (by omega)
  · have hc1:=b3 c (List.mem_of_mem_drop hc)
    have hc2:F+(l1.length:Int)<=c.b:=by
     rw [hdk] at hc
     rcases List.mem_append.1 hc with hc | hc
     · exact (d3.bases c hc).1
     · rw [List.mem_singleton] at hc
       rw [hc,e4,d1,List.length_append]
       omega
    intro e;have:=zcw (by omega) (by omega) (by omega) (by omega) e;omega
 obtain ⟨u1,u2⟩:=zcE (S.g.take k) hW1 hWy hd2.pair hb2 (fun a ha=>by
  rw [hsegW a (List.mem_of_mem_take ha)];rw [htk] at ha
  exact d2.there a ha)
 rcases u2 with ⟨a1,a2,a3⟩ | ⟨a1,a2,a3,a4⟩
 · have e4:trim4 S k W.1=delSegs W.1 (S.g.take k):=by unfold trim4;rw [if_neg fun h=>by rw [a1] at h;exact absurd h.1 (by decide)]
   rw [e4]
   exact ⟨new _ u1 (fun n hn=>a3 n (hdel n hn)) (fun e=>by rw [a2] at e;cases e),.inr ⟨a1,a2⟩,rfl⟩
 by_cases hF0:0<F
 · have e4:trim4 S k W.1=delete (delSegs W.1 (S.g.take k)).1 (snapN F):=by unfold trim4;rw [h.fl,if_pos ⟨a1,hF0⟩]
   rw [e4]
   generalize (delSegs W.1 (S.g.take k)).1=V at*;have hR:=zcL u1 (snapN F)
   have hns:∀n,Nms (F+l1.length) (S.g.drop k) n->n≠snapN F:=fun n hn=>by
    rcases hn with rfl | ⟨_,rfl⟩ | ⟨c,hc,rfl⟩
    · exact (zbC (by omega) (by omega)).1.symm
    · intro e
      have:=zdl (by omega) (by omega) (by omega) (by omega) e
      omega
    · have hc1:=b3 c (List.mem_of_mem_drop hc)
      exact (zaz (by omega) (by omega) (by omega) (by omega)).symm
   rcases zaP u1 (snapN F) with g | ⟨_,g,_⟩ | ⟨_,hD⟩
   · exact ⟨new _ hR (fun n hn=>by rw [g.f];exact a3 n (hdel n hn)) (fun e=>by rw [g.x] at e;cases e),.inr ⟨g.e,g.x⟩,rfl⟩
   · exfalso
     rw [a3 _ fun a ha=>by have:=hb2 a ha;exact zaz (by omega) (by omega) (by omega) (by omega)] at g
     rw [hWg _ (zbC (by omega) (by omega)).1 (hnb _ (.inr (.inl ⟨hF0,rfl⟩)))] at g
     rcases h.sn with ⟨h1,_⟩ | ⟨_,_,_,_,f,h2,_⟩
     · omega
     · rw [h2] at g;cases g
   · refine ⟨new _ hR (fun n hn=>by rw [hD.f,if_neg (hns n hn)];exact a3 n (hdel n hn)) (fun _ n hn=>?_),.inl hD.e,rfl⟩
     rw [hD.f] at hn
     by_cases en:n=snapN F
     · rw [if_pos en] at hn;exact absurd rfl hn
     rw [if_neg en] at hn
     by_cases ed:∃a∈S.g.take k,n=segN a.b
     · obtain ⟨a,ha,rfl⟩:=ed
       exact absurd (a4 a ha) hn
     rw [a3 n fun a ha e=>ed ⟨a,ha,e⟩] at hn
     by_cases e1:n=nm
     · exact .inl e1
     by_cases e2:n=snapN (trimF S k)
     · exact .inr (.inl ⟨by omega,by rw [<-hF];exact e2⟩)
     rw [hWg n e1 e2] at hn
     rcases h.cl hx n hn with h1 | ⟨_,h1⟩ | ⟨a,ha,h1⟩
     · exact .inl h1
     · exact absurd h1 en
     · rw [<-List.take_append_drop k S.g] at ha
       rcases List.mem_append.1 ha with ha | ha
       · exact absurd ⟨a,ha,h1⟩ ed
       · exact .inr (.inr ⟨a,ha,h1⟩)
 · have e4:trim4 S k W.1=delSegs W.1 (S.g.take k):=by unfold trim4;rw [h.fl,if_neg fun h=>hF0 h.2]
   rw [e4]
   refine ⟨new _ u1 (fun n hn=>a3 n (hdel n hn)) (fun _ n hn=>?_),.inl a1,rfl⟩
   by_cases ed:∃a∈S.g.take k,n=segN a.b
   · obtain ⟨a,ha,rfl⟩:=ed
     exact absurd (a4 a ha) hn
   rw [a3 n fun a ha e=>ed ⟨a,ha,e⟩] at hn
   by_cases e1:n=nm
   · exact .inl e1
   by_cases e2:n=snapN (trimF S k)
   · exact .inr (.inl ⟨by omega,by rw [<-hF];exact e2⟩)
   rw [hWg n e1 e2] at hn
   rcases h.cl hx n hn with h1 | ⟨h1,_⟩ | ⟨a,ha,h1⟩
   · exact .inl h1
   · exact absurd h1 hF0
   · rw [<-List.take_append_drop k S.g] at ha
     rcases List.mem_append.1 ha with ha | ha
     · exact absurd ⟨a,ha,h1⟩ ed
     · exact .inr (.inr ⟨a,ha,h1⟩)
variable {q F:Int} {S:St} {s0:List Fp.Pr} {rs:List Rp.Rec}
theorem zev:∀(l:List Fl) (k:List Int) (n:ByteArray),(get l n=none->get (zaA l k) n=none)/\∀f,get l n=some f->∃i,get (zaA l k) n=some (left f i)
 | [],_,_=>⟨fun _=>rfl,fun f h=>by cases h⟩
 | g::l,k,n=>by
  obtain ⟨i,k',e⟩:∃i k',zaA (g::l) k=left g i::zaA l k':=by
   cases k with
   | nil=>exact ⟨0,[],rfl⟩
   | cons a k=>exact ⟨a,k,rfl⟩
  obtain ⟨h1,h2⟩:=zev l k' n;rw [e];unfold Dp.get at*
  by_cases hn:g.n=n
  · have hn':(left g i).n=n:=hn
    rw [List.find?_cons_of_pos (by simpa using hn),List.find?_cons_of_pos (by simpa using hn')]
    exact ⟨fun h=>(by cases h),fun f h=>⟨i,by rw [<-Option.some.inj h]⟩⟩
  · have hn':¬(left g i).n=n:=hn
    rw [List.find?_cons_of_neg (by simpa using hn),List.find?_cons_of_neg (by simpa using hn')]
    exact ⟨h1,h2⟩
theorem zgL {f:Fl} (hs:0<=f.s/\f.s<=(f.d.size:Int)) (i:Int):∃m:Nat,f.s<=(m:Int)/\m<=f.d.size/\(left f i).n=f.n/\(left f i).d.data.toList=f.d.data.toList.take m/\(left f i).s=((left f i).d.size:Int):=by
 refine ⟨(f.s+max 0 (min i ((f.d.size:Int)-f.s))).toNat,by omega,by omega,rfl,?_,rfl⟩;show (f.d.extract 0 _).data.toList=_;rw [ByteArray.data_extract]
 simp
theorem Whole.crash {D:Dk} {n:ByteArray} {L:List UInt8} (hR:Right D) (h:Whole D n L) (k:List Int):Whole (crash D k) n L:=by
 obtain ⟨f,h1,h2,h3⟩:=h;obtain ⟨i,h4⟩:=(zev D.f k n).2 f h1;have hf:=hR.1 f (get_mem h1).1;obtain ⟨m,m1,m2,_,m3,m4⟩:=zgL hf.2 i;refine ⟨_,h4,?_,m4⟩;rw [m3, <-h2,List.take_of_length_le];show f.d.size<=m;omega
theorem Fulls.crash {D:Dk} {q:Int} (hR:Right D) (k:List Int):∀{t:List Rt.Sg} {b:Int} {rs:List Rp.Rec},Fulls D q t b rs->Fulls (crash D k) q t b rs
 | [],_,_,h=>h
 | _::_,_,_,⟨h1,l,r,h2,h3,h4,h5,h6,h7,h8,h9⟩=>⟨h1,l,r,h2,h3,h4,h5.crash hR k,h6,h7,h8,h9.crash hR k⟩
def Rest (r:List UInt8):Prop:=r=[]\/(r≠[]/\∃e:Int,e≠0/\Rp.nxt r=(Rp.zero,0,e))
theorem zkw:∀(l:List Rp.Rec),(∀r∈l,Rp.Ok r)->∀m:Nat,m<=(Rp.rowB l).length->∃j rest,j<=l.length/\(Rp.rowB l).take m=Rp.rowB (l.take j)++rest/\Rest rest/\∀i,i<=l.length->(Rp.rowB (l.take i)).length<=m->i<=j
 | [],_,m,_=>⟨0,[],Nat.le_refl _,by simp [Rp.rowB_nil],.inl rfl,fun i hi _=>hi⟩
 | a::l,hok,m,hm=>by
  have ha:=hok a mcs
  have h7:0<(Fr.fr (Rp.body a)).length:=by rw [Rp.fr_le ha];omega
  rw [Rp.rowB_cons] at hm ⊢;rw [List.length_append] at hm
  by_cases hlt:m<(Fr.fr (Rp.body a)).length
  · refine ⟨0,(Fr.fr (Rp.body a)).take m,Nat.zero_le _,?_,?_,fun i hi h=>?_⟩
    · rw [List.take_append_of_le_length (by omega),List.take_zero,Rp.rowB_nil,List.nil_append]
    · rcases Nat.eq_zero_or_pos m with rfl | h0
      · exact .inl List.take_zero
      · refine .inr ⟨fun e=>?_,2,by decide,Gp.nxt_cut ha hlt⟩
        have:=congrArg List.length e
        rw [List.length_take,List.length_nil] at this;omega
    · cases i with
      | zero=>exact Nat.le_refl _
      | succ i=>
       rw [List.take_succ_cons,Rp.rowB_cons,List.length_append] at h;omega
  · obtain ⟨j,rest,h1,h2,h3,h4⟩:=zkw l (fun r hr=>hok r (mcm hr)) (m-(Fr.fr (Rp.body a)).length) (by omega)
    refine ⟨j+1,rest,by simpa using h1,?_,h3,fun i hi h=>?_⟩
    · rw [List.take_append,List.take_of_length_le (by omega),h2,List.take_succ_cons,Rp.rowB_cons,List.append_assoc]
    · cases i with
      | zero=>exact Nat.zero_le _
      | succ i=>
       rw [List.take_succ_cons,Rp.rowB_cons,List.length_append] at h;exact Nat.succ_le_succ (h4 i (by simpa using hi) (by omega))
structure Img (q:Int) (D:Dk) (m:Qm.Mn) (F:Int) (s0:List Fp.Pr) (t:List Rt.Sg) (l r:List Rp.Rec) (rest:List UInt8):Prop where
 dr:Right D
 mo:Qm.Ok m
 ml:m.l=(t.map fun g:Rt.Sg=>g.b)++[F+(l.length:Int)]
 fl:m.l.headD 0=F
 f0:0<=F
 ok:∀x∈l++r,Rp.Ok x
 up:Gp.Rise F (l++r)
 fx:F+((l++r).length:Int)<=1099511627776
 fu:Fulls D q t F l
 la:Whole D (segN (F+(l.length:Int))) (Rp.rowB r++rest)
 re:Rest rest
 zq:((Rp.rowB r).length:Int)<=q+90
 sn:(F=0/\s0=[]/\m.z=0/\m.c=0)\/(0<F/\Fp.St s0/\m.z=((Fp.bytes s0).length:Int)/\m.c=(Cp.sum 0 (Fp.bytes s0):Int)/\Whole D (snapN F) (Fp.bytes s0))
 mf:Whole D nm (Qm.putM m).1
 al:∀f∈D.f,f.s=(f.d.size:Int)
theorem zdI:∀(l:List Fl) (k:List Int),∀f∈zaA l k,f.s=(f.d.size:Int)
 | [],_,f,hf=>by cases hf
 | g::l,[],f,hf=>by
  rcases List.mem_cons.1 hf with rfl | hf
  · rfl
  · exact zdI l [] f hf
 | g::l,k::r,f,hf=>by
  rcases List.mem_cons.1 hf with rfl | hf
  · rfl
  · exact zdI l r f hf
theorem Log.crash (h:Log q S F s0 rs) (k:List Int):∃t l r rest,Img q (crash S.d k) (man S) F s0 t l r rest/\l++r=rs.take (l++r).length/\(l++r).length<=rs.length/\S.s<=F+((l++r).length:Int):=by
 obtain ⟨t,l,r,e1,e2,e3,e4,e5,⟨f,f1,f2,f3⟩,e7,e8⟩:=h.seg;have hX:=h.x;have hhi:=h.hi;have hlo:=h.lo;obtain ⟨i,h4⟩:=(zev S.d.f k _).2 f f1;have hf:=h.dr.1 f (get_mem f1).1;obtain ⟨m,m1,m2,_,m3,m4⟩:=zgL hf.2 i
 have hsz:f.d.size=(Rp.rowB r).length:=by rw [<-f2];rfl
 obtain ⟨j,rest,j1,j2,j3,j4⟩:=zkw r (fun y hy=>h.ok y (by rw [e2];exact List.mem_append_right _ hy)) m (by omega)
 have hlen:rs.length=l.length+r.length:=by rw [e2,List.length_append]
 have hjl:(l++r.take j).length=l.length+j:=by rw [List.length_append,List.length_take,Nat.min_eq_left j1]
 have hpre:l++r.take j=rs.take (l++r.take j).length:=by
  rw [hjl,e2,List.take_append,List.take_of_length_le (show l.length<=l.length+j by omega),Nat.add_sub_cancel_left]
 have hup:=h.up
 have hup2:Gp.Rise F (l++r.take j):=by
  rw [e2, <-List.take_append_drop j r, <-List.append_assoc] at hup;exact (zbw F _ _ hup).1
 refine ⟨t,l,r.take j,rest,⟨h.dr.crash k,h.mo,?_,?_,h.f0,fun y hy=>h.ok y (by rw [hpre] at hy;exact List.mem_of_mem_take hy),hup2,by have:=h.fx;omega,e3.crash h.dr k,⟨_,by rw [<-e4];exact h4,?_,m4⟩,j3,?_,?_,h.mf.crash h.dr k,zdI S.d.f k⟩,hpre,by omega,?_⟩
 · show (S.g.map fun g:Rt.Sg=>g.b)=_
   conv=>lhs;rw [e1]
   rw [List.map_append, <-e4]
   rfl
 · show (S.g.map fun g:Rt.Sg=>g.b).headD 0=F
   rw [<-h.fl]
   unfold floor
   cases S.g<;>rfl
 · rw [m3,f2,j2]
 · have:=zei r j
   omega
 · rcases h.sn with h6 | ⟨h6,h7,h8,h9,h10⟩
   · exact .inl h6
   · exact .inr ⟨h6,h7,h8,h9,h10.crash h.dr k⟩
 · have h5:=j4 (S.s-(lastG S).b).toNat (by omega) (by omega)
   rw [hjl]
   omega
end Lg
end Go.Proofs.YtgmppfpllogdcaaGreat

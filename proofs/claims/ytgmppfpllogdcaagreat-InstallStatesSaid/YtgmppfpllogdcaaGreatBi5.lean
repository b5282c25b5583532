/-
  Parts of what the laws of this seat stand on:LogInv,LogApp.
-/
import Derived.Test.YtgmppfpllogdcaaGreatBi1
import Derived.Test.YtgmppfpllogdcaaGreatBi4
set_option maxRecDepth 100000
set_option maxHeartbeats 6400000
namespace Go.Proofs.YtgmppfpllogdcaaGreat
namespace Lg
open Dp So
def Fulls (D:Dk) (q:Int):List Rt.Sg->Int->List Rp.Rec->Prop
 | [],_,rs=>rs=[]
 | g::t,b,rs=>g.b=b/\∃l r,rs=l++r/\l≠[]/\g.n=(l.length:Int)/\Whole D (segN b) (Rp.rowB l)/\g.z=((Rp.rowB l).length:Int)/\q<=g.z/\g.z<=q+90/\Fulls D q t (b+g.n) r
theorem Fulls.so {D:Dk} {q:Int}:∀{t:List Rt.Sg} {b:Int} {rs:List Rp.Rec},Fulls D q t b rs->So.Fulls D q t b rs
 | [],_,_,h=>h
 | _::_,_,_,⟨h1,l,r,h2,h3,h4,h5,h6,h7,h8,h9⟩=>⟨h1,l,r,h2,h3,h4,h5.dat,h6,h7,h8,h9.so⟩
theorem Fulls.bases {D:Dk} {q:Int} {t:List Rt.Sg} {b:Int} {rs:List Rp.Rec} (h:Fulls D q t b rs):∀g∈t,b<=g.b/\g.b<b+rs.length:=h.so.bases
theorem Fulls.keep {D D':Dk} {q:Int}:∀{t:List Rt.Sg} {b:Int} {rs:List Rp.Rec},Fulls D q t b rs->(∀g∈t,get D'.f (segN g.b)=get D.f (segN g.b))->Fulls D' q t b rs
 | [],_,_,h,_=>h
 | g::t,b,rs,⟨h1,l,r,h2,h3,h4,h5,h6,h7,h8,h9⟩,hk=>
  ⟨h1,l,r,h2,h3,h4,h5.keep (by rw [<-h1];exact hk g mcs),h6,h7,h8,h9.keep fun x hx=>hk x (mcm hx)⟩
theorem Fulls.snoc {D:Dk} {q:Int} {g:Rt.Sg} {l2:List Rp.Rec}:∀{t:List Rt.Sg} {b:Int} {rs:List Rp.Rec},Fulls D q t b rs->g.b=b+rs.length->l2≠[]->g.n=(l2.length:Int)->Whole D (segN g.b) (Rp.rowB l2)->g.z=((Rp.rowB l2).length:Int)->q<=g.z->g.z<=q+90->Fulls D q (t++[g]) b (rs++l2)
 | [],b,rs,h,h1,h2,h3,h4,h5,h6,h7=>by
  obtain rfl:rs=[]:=h
  have hb:g.b=b:=by simpa using h1
  refine ⟨hb,l2,[],by simp,h2,h3,by rw [<-hb];exact h4,h5,h6,h7,rfl⟩
 | a::t,b,rs,⟨a1,l,r,a2,a3,a4,a5,a6,a7,a8,a9⟩,h1,h2,h3,h4,h5,h6,h7=>by
  subst a2;rw [List.length_append] at h1;exact ⟨a1,l,r++l2,by rw [List.append_assoc],a3,a4,a5,a6,a7,a8,a9.snoc (by omega) h2 h3 h4 h5 h6 h7⟩
theorem zei (l:List Rp.Rec) (k:Nat):(Rp.rowB (l.take k)).length<=(Rp.rowB l).length:=by
 have e:Rp.rowB l=Rp.rowB (l.take k)++Rp.rowB (l.drop k):=by
  unfold Rp.rowB;rw [<-Fr.row_append, <-List.map_append,List.take_append_drop]
 rw [e,List.length_append];omega
def Tail (D:Dk) (b:Int) (r:List Rp.Rec) (s:Int):Prop:=∃f,get D.f (segN b)=some f/\f.d.data.toList=Rp.rowB r/\((Rp.rowB (r.take (s-b).toNat)).length:Int)<=f.s
theorem Tail.keep {D D':Dk} {b s:Int} {r:List Rp.Rec} (h:Tail D b r s) (e:get D'.f (segN b)=get D.f (segN b)):Tail D' b r s:=by
 obtain ⟨f,h1,h2⟩:=h;exact ⟨f,e.trans h1,h2⟩
theorem Tail.dat {D:Dk} {b s:Int} {r:List Rp.Rec} (h:Tail D b r s):So.dat D (segN b)=some (Rp.rowB r):=by
 obtain ⟨f,h1,h2,_⟩:=h;unfold So.dat;rw [h1, <-h2]
 rfl
def Nms (F:Int) (g:List Rt.Sg) (n:ByteArray):Prop:=n=nm\/(0<F/\n=snapN F)\/ ∃a∈g,n=segN a.b
structure Log (q:Int) (S:St) (F:Int) (s0:List Fp.Pr) (rs:List Rp.Rec):Prop where
 dr:Right S.d
 ok:∀r∈rs,Rp.Ok r
 up:Gp.Rise F rs
 fl:floor S=F
 x:S.x=F+rs.length
 f0:0<=F
 fx:S.x<=1099511627776
 mo:Qm.Ok (man S)
 seg:∃t l r,S.g=t++[lastG S]/\rs=l++r/\Fulls S.d q t F l/\(lastG S).b=F+l.length/\(lastG S).n=(r.length:Int)/\Tail S.d (lastG S).b r S.s/\(lastG S).z=((Rp.rowB r).length:Int)/\(lastG S).z<=q+90
 lo:(lastG S).b<=S.s
 hi:S.s<=S.x
 sn:(F=0/\s0=[]/\S.z=0/\S.c=0)\/(0<F/\Fp.St s0/\S.z=((Fp.bytes s0).length:Int)/\S.c=(Cp.sum 0 (Fp.bytes s0):Int)/\Whole S.d (snapN F) (Fp.bytes s0))
 mf:Whole S.d nm (Qm.putM (man S)).1
 cl:S.d.x=false->∀n,get S.d.f n≠none->Nms F S.g n
variable {q F:Int} {S:St} {s0:List Fp.Pr} {rs:List Rp.Rec}
theorem Log.bases (h:Log q S F s0 rs):F<=(lastG S).b/\(lastG S).b<=S.x/\∀a∈S.g,F<=a.b/\a.b<=(lastG S).b:=by
 obtain ⟨t,l,r,e1,e2,e3,e4,_⟩:=h.seg;have hx:=h.x
 have hl:rs.length=l.length+r.length:=by rw [e2,List.length_append]
 refine ⟨by omega,by omega,fun a ha=>?_⟩;rw [e1] at ha
 rcases List.mem_append.1 ha with ha | ha
 · have:=e3.bases a ha
   omega
 · rw [List.mem_singleton] at ha
   rw [ha]
   omega
theorem Log.last_mem (h:Log q S F s0 rs):lastG S∈S.g:=by
 obtain ⟨t,l,r,e1,_⟩:=h.seg;rw [e1]
 simp
theorem Log.not_nn (h:Log q S F s0 rs) {n:ByteArray} (hn:Nms F S.g n):n≠nn:=by
 obtain ⟨b1,b2,b3⟩:=h.bases;have:=h.fx;have:=h.f0
 rcases hn with rfl | ⟨_,rfl⟩ | ⟨a,ha,rfl⟩
 · exact nmn
 · exact (zbC (by omega) (by omega)).2
 · have:=b3 a ha
   exact (za2 (by omega) (by omega)).2
theorem Log.not_new (h:Log q S F s0 rs) {y:Int} (hb:(lastG S).b<y) (hy:y<=1099511627776) {n:ByteArray} (hn:Nms F S.g n):n≠segN y:=by
 obtain ⟨b1,b2,b3⟩:=h.bases;have:=h.fx;have:=h.f0
 rcases hn with rfl | ⟨_,rfl⟩ | ⟨a,ha,rfl⟩
 · exact (za2 (by omega) hy).1.symm
 · exact zaz (by omega) (by omega) (by omega) hy
 · have:=b3 a ha
   intro e
   have:=zcw (by omega) (by omega) (by omega) hy e;omega
theorem Log.disk (h:Log q S F s0 rs) {D':Dk} (hR:Right D') (hf:∀n,Nms F S.g n->get D'.f n=get S.d.f n) (hc:D'.x=false->∀n,get D'.f n≠none->Nms F S.g n):Log q {S with d:=D'} F s0 rs:=by
 obtain ⟨t,l,r,e1,e2,e3,e4,e5,e6,e7,e8⟩:=h.seg;refine ⟨hR,h.ok,h.up,h.fl,h.x,h.f0,h.fx,h.mo,⟨t,l,r,e1,e2,e3.keep fun g hg=>hf _ (.inr (.inr ⟨g,by rw [e1];exact List.mem_append_left _ hg,rfl⟩)),e4,e5,e6.keep (hf _ (.inr (.inr ⟨_,h.last_mem,rfl⟩))),e7,e8⟩,h.lo,h.hi,?_,h.mf.keep (hf _ (.inl rfl)),hc⟩
 rcases h.sn with h1 | ⟨h1,h2,h3,h4,h5⟩
 · exact .inl h1
 · exact .inr ⟨h1,h2,h3,h4,h5.keep (hf _ (.inr (.inl ⟨h1,rfl⟩)))⟩
theorem Log.dead (h:Log q S F s0 rs) {D':Dk} (hR:Right D') (hx:D'.x=true) (hf:∀n,Nms F S.g n->get D'.f n=get S.d.f n):Log q {S with d:=D'} F s0 rs:=
 h.disk hR hf fun e=>by rw [hx] at e;cases e
theorem Log.arm (h:Log q S F s0 rs) (k:Int):Log q {S with d:=arm S.d k} F s0 rs:=h.disk (right6 h.dr k) (fun _ _=>rfl) h.cl
theorem Log.limit (h:Log q S F s0 rs) (k:Int):Log q {S with d:=limit S.d k} F s0 rs:=h.disk (right7 h.dr k) (fun _ _=>rfl) h.cl
theorem Log.has_last (h:Log q S F s0 rs):get S.d.f (segN (lastG S).b)≠none:=by
 obtain ⟨t,l,r,_,_,_,_,_,⟨f,h1,_⟩,_⟩:=h.seg;rw [h1];simp
theorem Log.sync (h:Log q S F s0 rs):Log q (zat S).1 F s0 rs/\(((zat S).2=0/\(zat S).1.d.x=false/\(zat S).1.s=S.x/\∃t l r,S.g=t++[lastG S]/\rs=l++r/\Fulls (zat S).1.d q t F l/\Whole (zat S).1.d (segN (lastG S).b) (Rp.rowB r))\/((zat S).2=10/\(zat S).1.d.x=true/\(zat S).1.s=S.s)):=by
 have hR:=zeT h.dr (segN (lastG S).b);obtain ⟨t,l,r,e1,e2,e3,e4,e5,⟨f,f1,f2,f3⟩,e7,e8⟩:=h.seg
 rcases zcd h.dr (segN (lastG S).b) with h1 | ⟨_,h1,_⟩ | ⟨f',h1,hD⟩
 · have e:zat S=({S with d:=(Dp.sync S.d (segN (lastG S).b)).1},10):=by
    unfold zat;rw [h1.e,if_neg (by decide)]
   rw [e];exact ⟨h.dead hR h1.x fun n _=>by rw [h1.f],.inr ⟨rfl,h1.x,rfl⟩⟩
 · exact absurd h1 h.has_last
 · rw [f1] at h1
   obtain rfl:=Option.some.inj h1
   have e:zat S=({{S with d:=(Dp.sync S.d (segN (lastG S).b)).1} with s:=S.x},0):=by
    unfold zat;rw [hD.e,if_pos rfl]
   have hDf:=hD.f;have hDy:=hD.y;have hDx:=hD.x;rw [e];generalize (Dp.sync S.d (segN (lastG S).b)).1=D at*;have hbl:F<=(lastG S).b/\(lastG S).b<=1099511627776:=⟨h.bases.1,by have:=h.bases.2.1;have:=h.fx;omega⟩;have hf0:=h.f0
   have ht:∀g∈t,get D.f (segN g.b)=get S.d.f (segN g.b):=fun g hg=>by
    have h5:=e3.bases g hg;rw [hDf,if_neg fun e=>?_];have:=zcw (by omega) (by omega) (by omega) (by omega) e;omega
   have hw:Whole D (segN (lastG S).b) (Rp.rowB r):=⟨_,(hDf _).trans (if_pos rfl),f2,rfl⟩
   have hnm:get D.f nm=get S.d.f nm:=by rw [hDf,if_neg (za2 (by omega) (by omega)).1.symm]
   refine ⟨⟨hR,h.ok,h.up,h.fl,h.x,h.f0,h.fx,h.mo,⟨t,l,r,e1,e2,e3.keep ht,e4,e5,?_,e7,e8⟩,by have:=h.bases.2.1;exact this,Int.le_refl _,?_,h.mf.keep hnm,fun _ n hn=>?_⟩,.inl ⟨rfl,hDy,rfl,t,l,r,e1,e2,e3.keep ht,hw⟩⟩
   · obtain ⟨g,g1,g2,g3⟩:=hw
     refine ⟨g,g1,g2,?_⟩
     have:=zei r (S.x-(lastG S).b).toNat;rw [g3,show g.d.size=g.d.data.toList.length from rfl,g2];exact Int.ofNat_le.2 this
   · rcases h.sn with h6 | ⟨h6,h7,h8,h9,h10⟩
     · exact .inl h6
     · exact .inr ⟨h6,h7,h8,h9,h10.keep (by rw [hDf,if_neg (zaz (by omega) (by omega) (by omega) (by omega))])⟩
   · have hn':get D.f n≠none:=hn
     rw [hDf] at hn'
     by_cases en:n=segN (lastG S).b
     · exact .inr (.inr ⟨_,h.last_mem,en⟩)
     · rw [if_neg en] at hn'
       exact h.cl hDx n hn'
theorem man_snoc {v z c y:Int} {l:List Int} (h:Qm.Ok ⟨v,l,z,c⟩) (hv:v<1099511627776) (hl:l.length<64) (h1:l.getD (l.length-1) 0<y) (h2:y<=1099511627776):Qm.Ok ⟨v+1,l++[y],z,c⟩:=by
 have n0:1<=l.length:=h.n0;have hz:0<=l.getD (l.length-1) 0:=(h.at_ (l.length-1) (by show _<l.length;omega)).1
 have ga:∀i,i<l.length->(l++[y]).getD i 0=l.getD i 0:=fun i hi=>by simp [List.getD_eq_getElem?_getD,List.getElem?_append_left hi]
 have gb:(l++[y]).getD l.length 0=y:=by simp [List.getD_eq_getElem?_getD]
 refine ⟨by have:=h.v0;show 1<=v+1;have:1<=v:=this;omega,by show v+1<=_;omega,by show 1<=(l++[y]).length;simp,by show (l++[y]).length<=64;simp;omega,fun i hi=>?_,?_,h.c⟩
 · have hi':i<l.length+1:=by have:i<(l++[y]).length:=hi;simpa using this
   show Qm.AtOk (l++[y]) i
   unfold Qm.AtOk
   by_cases e:i<l.length
   · have:=h.at_ i e
     rw [ga i e]
     refine ⟨this.1,this.2.1,fun h0=>?_⟩;rw [ga (i-1) (by omega)];exact this.2.2 h0
   · obtain rfl:i=l.length:=by omega
     rw [gb]
     refine ⟨by omega,h2,fun _=>?_⟩;rw [ga _ (by omega)];exact h1
 · show ((l++[y]).getD 0 0=0/\_)\/((l++[y]).getD 0 0≠0/\_)
   rw [ga 0 (by omega)]
   exact h.z
theorem map_last (l:List Rt.Sg):(l.map fun g=>g.b).getD (l.length-1) 0=(l.getD (l.length-1) Rt.zero).b:=by
 simp only [List.getD_eq_getElem?_getD,List.getElem?_map]
 rcases l[l.length-1]? with _ | a<;>rfl
theorem Log.roll (h:Log q S F s0 rs) (hq:0<q) (hz:q<=(lastG S).z) (hx:S.x<1099511627776) (hv:S.v<1099511627776):
 Log q (roll S).1 F s0 rs/\S.s<=(roll S).1.s/\(((roll S).2=0/\(lastG (roll S).1).z=0/\(roll S).1.d.x=false)\/(roll S).2=9\/((roll S).2=10/\(roll S).1.d.x=true)):=by
 have hs1:=h.hi;obtain ⟨hS,hsy⟩:=h.sync;have hgg:(zat S).1.g=S.g:=rfl;have hvv:(zat S).1.v=S.v:=rfl;have hxx:(zat S).1.x=S.x:=rfl;have hlz:lastG (zat S).1=lastG S:=rfl;unfold So.roll
 split
 · exact ⟨h,Int.le_refl _,.inr (.inl rfl)⟩
 rename_i h64
 split
 · rename_i h1
   rcases hsy with ⟨h2,_⟩ | ⟨h2,h3,h4⟩
   · exact absurd h2 h1
   · exact ⟨hS,by omega,.inr (.inr ⟨h2,h3⟩)⟩
 rename_i h1
 obtain ⟨_,hTx,hTs,t,l,r,e1,e2,e3,e4⟩:(zat S).2=0/\(zat S).1.d.x=false/\(zat S).1.s=S.x/\∃t l r,S.g=t++[lastG S]/\rs=l++r/\Fulls (zat S).1.d q t F l/\Whole (zat S).1.d (segN (lastG S).b) (Rp.rowB r):=by
  rcases hsy with h2 | ⟨h2,_⟩
  · exact h2
  · exact absurd h2 (by have:(zat S).2=0:=by simpa using h1
                        rw [this];decide)
 clear hsy h1
 have e5:(lastG S).b=F+l.length/\(lastG S).n=(r.length:Int)/\(lastG S).z=((Rp.rowB r).length:Int)/\(lastG S).z<=q+90:=by
  obtain ⟨t',l',r',e1',e2',e3',e4',e5',e6',e7',e8'⟩:=hS.seg;have hd:Rp.rowB r=Rp.rowB r':=Option.some.inj (e4.dat.symm.trans (by rw [<-hlz];exact e6'.dat));obtain ⟨t2,l2,r2,c1,c2,c3,c4,c5,c6,c7,c8⟩:=h.seg;have ht:t2=t:=(List.append_inj (c1.symm.trans e1) (by have h1:=congrArg List.length c1;have h2:=congrArg List.length e1;simp at h1 h2;omega)).1;subst ht
  have hll:l.length=l2.length:=by
   have a1:=e3.so;have a2:=c3.so
   have:∀{D D':Dk} {t:List Rt.Sg} {b:Int} {x y:List Rp.Rec},So.Fulls D q t b x->So.Fulls D' q t b y->x.length=y.length:=by
    intro D D' t
    induction t with
    | nil=>intro b x y hx hy;rw [show x=[] from hx,show y=[] from hy]
    | cons g t ih=>
     rintro b x y ⟨_,l,r,rfl,_,h4,_,_,_,_,h9⟩ ⟨_,l',r',rfl,_,h4',_,_,_,_,h9'⟩;rw [List.length_append,List.length_append,ih h9 h9']
     have:l.length=l'.length:=by omega
     omega
   exact this a1 a2
  have hrr:r=r2:=by
   have:=e2.symm.trans c2;exact (List.append_inj this hll).2
  subst hrr;exact ⟨by omega,c5,c7,c8⟩
 obtain ⟨e5,e6,e7,e8⟩:=e5;rw [<-hlz] at hz e5 e6 e7 e8 e4 e1;rw [<-hgg] at e1 h64;rw [<-hvv] at hv;rw [<-hxx] at hx
 have hTs':S.s<=(zat S).1.s:=by omega
 have hTs2:(zat S).1.s=(zat S).1.x:=hTs;clear hTs hlz hgg hvv hxx;generalize (zat S).1=T at*;have hTX:=hS.x;have hf0:=hS.f0
 have hr0:r≠[]:=by
  rintro rfl;rw [Rp.rowB_nil] at e7;simp at e7;omega
 have hrl:0<r.length:=List.length_pos_iff.2 hr0
 have hlen:rs.length=l.length+r.length:=by rw [e2,List.length_append]
 have hbx:(lastG T).b<T.x:=by omega
 have hbl:=hS.bases
 have hmo:Qm.Ok (man (more T T.d)):=by
  have:=man_snoc (v:=T.v) (l:=T.g.map fun g:Rt.Sg=>g.b) (z:=T.z) (c:=T.c) (y:=T.x) hS.mo hv (by rw [List.length_map];omega) (by rw [List.length_map,map_last];exact hbx) (by omega)
  have e:man (more T T.d)=⟨T.v+1,(T.g.map fun g:Rt.Sg=>g.b)++[T.x],T.z,T.c⟩:=by unfold man more;simp
  rw [e];exact this
 have hnew:∀n,Nms F T.g n->n≠segN T.x:=fun n hn=>hS.not_new hbx (by omega) hn;have hnn:∀n,Nms F T.g n->n≠nn:=fun n hn=>hS.not_nn hn;have hC1:=zdn hS.dr (segN T.x);dsimp only
 rcases zbn hS.dr (zdD (show 0<=T.x by omega) (by omega)) with h1 | ⟨h1,h2,_⟩ | ⟨hg,hC⟩
 · rw [if_pos (by rw [h1.e];decide),h1.e]
   exact ⟨hS.dead hC1 h1.x fun n _=>by rw [h1.f],hTs',.inr (.inr ⟨rfl,h1.x⟩)⟩
 · exact absurd rfl (hnew _ (hS.cl h1 _ h2))
 rw [if_neg (by rw [hC.e];decide)];have hCf:=hC.f;have hCy:=hC.y;clear hC;generalize (create T.d (segN T.x)).1=C at*
 have hcn:get C.f nn=none:=by
  rw [hCf,if_neg (za2 (by omega) (by omega)).2.symm]
  rcases hh:get T.d.f nn with _ | f
  · rfl
  · exact absurd rfl (hS.not_nn (hS.cl hTx nn (by rw [hh];simp)))
 obtain ⟨hW1,_⟩:=zdk hC1 (man (more T C));have hmo':Qm.Ok (man (more T C)):=hmo
 rcases zcX hC1 hmo' (fun _=>hcn) with h1 | ⟨_,h2,h3,h4,_⟩ | hW
 · rw [if_neg (by rw [h1.e];decide),if_pos (by rw [h1.e];decide),h1.e]
   exact ⟨hS.dead hW1 h1.x fun n hn=>by rw [h1.f n (hnn n hn),hCf,if_neg (hnew n hn)],hTs',.inr (.inr ⟨rfl,h1.x⟩)⟩
 · rw [if_pos h2]
   generalize (swap C (man (more T C))).1=W at*
   have hX1:=zcL hW1 (segN T.x)
   rcases zaP hW1 (segN T.x) with h5 | ⟨_,h5,_⟩ | ⟨h5,hX⟩
   · rw [if_neg (by rw [h5.e];decide),h5.e]
     exact ⟨hS.dead hX1 h5.x fun n hn=>by rw [h5.f,h4,hCf,if_neg (hnew n hn)],hTs',.inr (.inr ⟨rfl,h5.x⟩)⟩
   · rw [h4,hCf,if_pos rfl] at h5;cases h5
   · rw [if_pos hX.e]
     refine ⟨hS.disk hX1 (fun n hn=>by rw [hX.f,if_neg (hnew n hn),h4,hCf,if_neg (hnew n hn)]) fun _ n hn=>?_,hTs',.inr (.inl rfl)⟩
     rw [hX.f] at hn
     by_cases en:n=segN T.x
     · rw [if_pos en] at hn;exact absurd rfl hn
     · rw [if_neg en,h4,hCf,if_neg en] at hn
       exact hS.cl hTx n hn
 · rw [if_neg (by rw [hW.e];decide),if_neg (by rw [hW.e];decide)]
   have hWf:=hW.f
   have hWy:=hW.y;clear hW;generalize hWW:(swap C (man (more T C))).1=W at*
   have hlg:lastG (more T W)=⟨T.x,0,0⟩:=by
    unfold lastG more;dsimp only;rw [zcm]
   have hfr:∀n,Nms F T.g n->n≠nm->get W.f n=get T.d.f n:=fun n hn h0=>by rw [hWf,if_neg h0,hCf,if_neg (hnew n hn)]
   have hsg:∀a∈T.g,get W.f (segN a.b)=get T.d.f (segN a.b):=fun a ha=>hfr _ (.inr (.inr ⟨a,ha,rfl⟩)) (by
    have:=hbl.2.2 a ha
    exact (za2 (by omega) (by omega)).1)
   refine ⟨⟨hW1,hS.ok,hS.up,?_,hS.x,hS.f0,hS.fx,hmo,⟨T.g,rs,[],?_,by simp,?_,?_,?_,?_,?_,?_⟩,?_,hS.hi,?_,?_,fun _ n hn=>?_⟩,hTs',.inl ⟨rfl,by rw [hlg],hWy⟩⟩
   · rw [<-hS.fl]
     show ((T.g++[_]).headD _).b=(T.g.headD _).b
     rw [e1]
     cases t<;>rfl
   · rw [hlg];rfl
   · show Fulls W q T.g F rs
     rw [e1,e2]
     refine (e3.keep fun a ha=>hsg a (by rw [e1];exact List.mem_append_left _ ha)).snoc e5 hr0 e6 (e4.keep (hsg _ hS.last_mem)) e7 hz e8
   · rw [hlg];exact hS.x
   · rw [hlg];rfl
   · rw [hlg]
     refine ⟨⟨segN T.x,⟨#[]⟩,0⟩,?_,rfl,?_⟩
     · show get W.f (segN T.x)=_
       rw [hWf,if_neg (za2 (by omega) (by omega)).1,hCf,if_pos rfl]
     · rw [List.take_nil];exact Int.le_refl _
   · rw [hlg];rfl
   · rw [hlg];show (0:Int)<=_;omega
   · rw [hlg]
     show T.x<=T.s
     omega
   · rcases hS.sn with h6 | ⟨h6,h7,h8,h9,h10⟩
     · exact .inl h6
     · exact .inr ⟨h6,h7,h8,h9,h10.keep (hfr _ (.inr (.inl ⟨h6,rfl⟩)) (zbC (by omega) (by omega)).1)⟩
   · exact ⟨_,(hWf nm).trans (if_pos rfl),rfl,rfl⟩
   · have hn':get W.f n≠none:=hn
     show Nms F (T.g++[⟨T.x,0,0⟩]) n
     rw [hWf] at hn'
     by_cases e1:n=nm
     · exact .inl e1
     · rw [if_neg e1,hCf] at hn'
       by_cases e2:n=segN T.x
       · exact .inr (.inr ⟨⟨T.x,0,0⟩,by simp,e2⟩)
       · rw [if_neg e2] at hn'
         rcases hS.cl hTx n hn' with h1 | h1 | ⟨a,ha,h1⟩
         · exact .inl h1
         · exact .inr (.inl h1)
         · exact .inr (.inr ⟨a,List.mem_append_left _ ha,h1⟩)
variable {q F:Int} {S:St} {s0:List Fp.Pr} {rs:List Rp.Rec}
theorem zjJ (t:List Rt.Sg) (g g':Rt.Sg) (h:g'.b=g.b):((t++[g']).headD Rt.zero).b=((t++[g]).headD Rt.zero).b:=by
 cases t
 · exact h
 · rfl
theorem Log.put (h:Log q S F s0 rs) (hz:(lastG S).z<q) {r:Rp.Rec} (hr:Rp.Ok r) (ha:r.a=S.x) (hx:S.x<1099511627776):
 (put S r).1.s=S.s/\(((put S r).2=0/\Log q (put S r).1 F s0 (rs++[r])/\(put S r).1.d.x=false)\/(((put S r).2=9\/(put S r).2=10)/\Log q (put S r).1 F s0 rs)):=by
 have hR:=zeU h.dr (segN (lastG S).b) ⟨(Rp.putB r).toArray⟩
 have hp:Rp.putB r=Fr.fr (Rp.body r):=by unfold Rp.putB;rw [if_pos (Rp.fault_zero hr)]
 obtain ⟨t,l,m,e1,e2,e3,e4,e5,⟨f,f1,f2,f3⟩,e7,e8⟩:=h.seg;have hbl:=h.bases;have hf0:=h.f0;have hX:=h.x;have hhi:=h.hi;have hlo:=h.lo
 have hlen:rs.length=l.length+m.length:=by rw [e2,List.length_append]
 unfold So.put;dsimp only
 rcases zb5 h.dr (segN (lastG S).b) ⟨(Rp.putB r).toArray⟩ with h1 | ⟨_,h1,_⟩ | ⟨_,_,h1⟩ | ⟨f',h1,hD⟩
 · rw [if_pos (by rw [h1.e];decide),h1.e]
   exact ⟨rfl,.inr ⟨.inr rfl,h.dead hR h1.x fun n _=>by rw [h1.f]⟩⟩
 · exact absurd h1 h.has_last
 · rw [h1,if_pos (by show (9:Int)≠0;decide)]
   exact ⟨rfl,.inr ⟨.inl rfl,h⟩⟩
 · rw [f1] at h1
   obtain rfl:=Option.some.inj h1
   rw [if_neg (by rw [hD.e];decide)];have hDf:=hD.f;have hDy:=hD.y;have hDx:=hD.x;clear hD;generalize (Dp.append S.d (segN (lastG S).b) ⟨(Rp.putB r).toArray⟩).1=D at*
   have hoth:∀n,n≠segN (lastG S).b->get D.f n=get S.d.f n:=fun n hn=>by rw [hDf,if_neg hn]
   have hg:(grown S.g (Rp.putB r).length)=t++[⟨(lastG S).b,(lastG S).n+1,(lastG S).z+((Rp.putB r).length:Nat)⟩]:=by
    rw [e1];have:=zjF t (lastG S) (Rp.putB r).length;exact this
   have hlg:∀D' x',lastG {S with d:=D',g:=grown S.g (Rp.putB r).length,x:=x'}=⟨(lastG S).b,(lastG S).n+1,(lastG S).z+((Rp.putB r).length:Nat)⟩:=fun D' x'=>by
    show (grown S.g _).getD ((grown S.g _).length-1) Rt.zero=_;rw [hg,zcm]
   have hb:(grown S.g (Rp.putB r).length).map (fun g:Rt.Sg=>g.b)=S.g.map fun g:Rt.Sg=>g.b:=by
    rw [hg]
    conv=>rhs;rw [e1]
    rw [List.map_append,List.map_append]
    rfl
   have hman:∀D' x',man {S with d:=D',g:=grown S.g (Rp.putB r).length,x:=x'}=man S:=fun D' x'=>by
    unfold man;dsimp only;rw [hb]
   have hfl:((grown S.g (Rp.putB r).length).headD Rt.zero).b=F:=by
    rw [hg];refine (zjJ t (lastG S) ⟨(lastG S).b,(lastG S).n+1,(lastG S).z+((Rp.putB r).length:Nat)⟩ rfl).trans ?_;rw [<-e1];exact h.fl
   have hnm:∀n,Nms F S.g n↔Nms F (grown S.g (Rp.putB r).length) n:=fun n=>by
    have:∀l:List Rt.Sg,(∃a∈l,n=segN a.b)↔ ∃b∈l.map (fun g:Rt.Sg=>g.b),n=segN b:=fun l=>by
     constructor
     · rintro ⟨a,ha,e⟩
       exact ⟨a.b,List.mem_map_of_mem ha,e⟩
     · rintro ⟨b,hb,e⟩
       obtain ⟨a,ha,rfl⟩:=List.mem_map.1 hb
       exact ⟨a,ha,e⟩
    unfold Nms;rw [this,this,hb]
   refine ⟨rfl,.inl ⟨rfl,⟨hR,fun y hy=>?_,zgk F rs r h.up (by omega),hfl,?_,h.f0,by show S.x+1<=_;omega,by rw [hman];exact h.mo,⟨t,l,m++[r],?_,by rw [e2,List.append_assoc],?_,?_,?_,?_,?_,?_⟩,?_,by show S.s<=S.x+1;omega,?_,?_,fun _ n hn=>?_⟩,hDy⟩⟩
   · rcases List.mem_append.1 hy with hy | hy
     · exact h.ok y hy
     · rw [List.mem_singleton] at hy;subst hy;exact hr
   · show S.x+1=_
     rw [List.length_append,List.length_singleton]
     omega
   · rw [hlg]
     exact hg
   · exact e3.keep fun a ha'=>hoth _ fun e=>by
      have:=e3.bases a ha';have:=zcw (by omega) (by omega) (by omega) (by omega) e;omega
   · rw [hlg];exact e4
   · rw [hlg]
     show (lastG S).n+1=_
     rw [List.length_append,List.length_singleton];omega
   · rw [hlg]
     refine ⟨⟨segN (lastG S).b,f.d++⟨(Rp.putB r).toArray⟩,f.s⟩,by show get D.f (segN (lastG S).b)=_;rw [hDf,if_pos rfl],?_,?_⟩
     · rw [Rp.rowB_snoc, <-hp, <-f2]
       simp
     · show ((Rp.rowB ((m++[r]).take (S.s-(lastG S).b).toNat)).length:Int)<=f.s
       rw [List.take_append_of_le_length (by omega)]
       exact f3
   · rw [hlg]
     show (lastG S).z+_=_
     rw [Rp.rowB_snoc,List.length_append,e7, <-hp];omega
   · rw [hlg]
     have h1:=Rp.fr_le hr
     have h2:=Rp.body_le hr;show (lastG S).z+((Rp.putB r).length:Int)<=_;rw [hp];omega
   · rw [hlg]
     exact hlo
   · rcases h.sn with h6 | ⟨h6,h7,h8,h9,h10⟩
     · exact .inl h6
     · exact .inr ⟨h6,h7,h8,h9,h10.keep (hoth _ (zaz (by omega) (by omega) (by omega) (by omega)))⟩
   · rw [hman]
     exact h.mf.keep (hoth _ (za2 (by omega) (by omega)).1.symm)
   · have hn':get D.f n≠none:=hn
     refine (hnm n).1 ?_
     by_cases e:n=segN (lastG S).b
     · exact .inr (.inr ⟨_,h.last_mem,e⟩)
     · rw [hoth n e] at hn'
       exact h.cl hDx n hn'
theorem roll_x (S:St):(So.roll S).1.x=S.x/\(So.roll S).1.v<=S.v+1/\S.v<=(So.roll S).1.v:=by
 have e1:(zat S).1.x=S.x:=rfl;have e2:(zat S).1.v=S.v:=rfl;unfold So.roll
 split
 · exact ⟨rfl,by show S.v<=S.v+1;omega,Int.le_refl _⟩
 split
 · exact ⟨e1,by omega,Int.le_of_eq e2.symm⟩
 dsimp only
 split
 · exact ⟨e1,by show (zat S).1.v<=_;omega,Int.le_of_eq e2.symm⟩
 split
 · exact ⟨e1,by show (zat S).1.v<=_;omega,Int.le_of_eq e2.symm⟩
 split
 · exact ⟨e1,by show (zat S).1.v<=_;omega,Int.le_of_eq e2.symm⟩
 · exact ⟨e1,by show (zat S).1.v+1<=_;omega,by show _<=(zat S).1.v+1;omega⟩
theorem put_v (S:St) (r:Rp.Rec):(So.put S r).1.v=S.v:=by
 unfold So.put;dsimp only
 split<;>rfl
theorem Log.append (h:Log q S F s0 rs) (hq:0<q) (hv:S.v<1099511627776) (r:Rp.Rec):
 S.s<=(So.append S q r).1.s/\(So.append S q r).1.v<=S.v+1/\(((So.append S q r).2=0/\Rp.Ok r/\r.a=S.x/\Log q (So.append S q r).1 F s0 (rs++[r]))\/((So.append S q r).2≠0/\Log q (So.append S q r).1 F s0 rs/\(¬(Rp.Ok r/\r.a=S.x)\/1099511627776<=S.x\/(So.append S q r).2=9\/(So.append S q r).2=10))):=by
 unfold So.append
 split
 · rename_i h1
   exact ⟨Int.le_refl _,by show S.v<=_;omega,.inr ⟨by show (1:Int)≠0;decide,h,.inl h1⟩⟩
 rename_i h1;have h1:Rp.Ok r/\r.a=S.x:=Classical.not_not.1 h1
 split
 · rename_i h2
   exact ⟨Int.le_refl _,by show S.v<=_;omega,.inr ⟨by show (13:Int)≠0;decide,h,.inr (.inl h2)⟩⟩
 rename_i h2;have hv2:=roll_x S
 split
 · rename_i h3
   obtain ⟨r1,r2,r3⟩:=h.roll hq h3 (by omega) hv
   split
   · rename_i h4
     refine ⟨r2,hv2.2.1,.inr ⟨h4,r1,?_⟩⟩
     rcases r3 with ⟨a,_⟩ | a | ⟨a,_⟩
     · exact absurd a h4
     · exact .inr (.inr (.inl a))
     · exact .inr (.inr (.inr a))
   · rename_i h4
     have h4:(So.roll S).2=0:=by simpa using h4
     have hz:(lastG (So.roll S).1).z=0:=by
      rcases r3 with ⟨_,a,_⟩ | a | ⟨a,_⟩
      · exact a
      · rw [h4] at a;cases a
      · rw [h4] at a;cases a
     obtain ⟨p1,p2⟩:=r1.put (by rw [hz];exact hq) h1.1 (by rw [hv2.1];exact h1.2) (by rw [hv2.1];omega);have p3:=put_v (So.roll S).1 r;refine ⟨by omega,by omega,?_⟩
     rcases p2 with ⟨a1,a2,_⟩ | ⟨a1,a2⟩
     · exact .inl ⟨a1,h1.1,h1.2,a2⟩
     · exact .inr ⟨by rcases a1 with a1 | a1<;>rw [a1]<;>decide,a2,.inr (.inr a1)⟩
 · rename_i h3
   obtain ⟨p1,p2⟩:=h.put (by omega) h1.1 h1.2 (by omega)
   have p3:=put_v S r;refine ⟨by omega,by omega,?_⟩
   rcases p2 with ⟨a1,a2,_⟩ | ⟨a1,a2⟩
   · exact .inl ⟨a1,h1.1,h1.2,a2⟩
   · exact .inr ⟨by rcases a1 with a1 | a1<;>rw [a1]<;>decide,a2,.inr (.inr a1)⟩
theorem Log.recs (h:Log q S F s0 rs):(S.g.flatMap fun g=>zc5 S.d g.b)=rs:=by
 obtain ⟨t,l,r,e1,e2,e3,e4,e5,e6,e7,e8⟩:=h.seg;have hup:=h.up;have hok:=h.ok;have hx:=h.x;have hfx:=h.fx;have hf0:=h.f0;subst e2;rw [List.length_append] at hx;obtain ⟨i1,i2⟩:=zbw F l r hup;rw [e1,List.flatMap_append,e3.so.recs (fun y hy=>hok y (List.mem_append_left _ hy)) i1 hf0 (by omega)]
 congr 1
 show zc5 S.d (lastG S).b++[]=r;rw [List.append_nil];unfold zc5;rw [e6.dat];exact ziM (fun y hy=>hok y (List.mem_append_right _ hy)) (by rw [e4];exact i2) (by omega) (by omega)
theorem Log.read (h:Log q S F s0 rs) {i:Nat} (hi:i<rs.length):zb6 S (F+(i:Int))=(rs[i],0):=by
 have hx:=h.x;have hf0:=h.f0;unfold zb6;rw [if_neg (by omega),h.recs,zlt F rs h.up i hi]
def snapT (S:St):List UInt8:=if floor S=0 then [] else (dat S.d (snapN (floor S))).getD []
noncomputable def stateT (S:St) (o:Int):List Fp.Pr:=(List.range (o-floor S).toNat).foldl (fun l (i:Nat)=>Fp.step l (zb6 S (floor S+(i:Int))).1.d) ((Fp.parse (snapT S)).getD [])
theorem zkQ:Fp.parse []=none:=by
 unfold Fp.parse
 rfl
theorem Log.snap (h:Log q S F s0 rs):(Fp.parse (snapT S)).getD []=s0/\(snapT S).length=S.z.toNat/\Fp.St s0:=by
 unfold snapT;rw [h.fl]
 rcases h.sn with ⟨h1,rfl,h3,_⟩ | ⟨h1,h2,h3,h4,h5⟩
 · rw [if_pos h1,zkQ,h3]
   exact ⟨rfl,rfl,Fp.St.nil⟩
 · rw [if_neg (by omega),h5.dat]
   dsimp only [Option.getD_some]
   rw [Fp.parse_bytes h2,h3];exact ⟨rfl,by omega,h2⟩
theorem Log.state (h:Log q S F s0 rs) {k:Nat} (hk:k<=rs.length):stateT S (F+(k:Int))=Fp.fold s0 ((rs.take k).map fun r=>r.d):=by
 unfold stateT;rw [h.fl,h.snap.1,show (F+(k:Int)-F).toNat=k from by omega]
 induction k with
 | zero=>simp [Fp.fold]
 | succ k ih=>
  rw [List.range_succ,List.foldl_append,ih (by omega),List.take_succ_eq_append_getElem (by omega),List.map_append,Fp.fold_append];show Fp.step _ _=Fp.step _ _;rw [h.read (by omega)]
theorem Log.new {q:Int} (hq:0<=q):(zal empty).2=0/\Log q (zal empty).1 0 [] []/\(zal empty).1.v=1:=by
 obtain ⟨c1,c2,c3⟩:=zjN hq;have R0:=Right.empty;have r1:=zdn R0 (segN 0);have hns:segN 0≠nm/\segN 0≠nn:=za2 (by decide) (by decide);have hman:∀D:Dk,man ⟨D,1,[⟨0,0,0⟩],0,0,0,0⟩=⟨1,[0],0,0⟩:=fun D=>rfl;unfold zal at c1 c2 c3 ⊢
 rcases zbn R0 (zdD (show (0:Int)<=0 by decide) (by decide)) with h1 | ⟨_,h2,_⟩ | ⟨hg,hC⟩
 · rw [if_pos (by rw [h1.e];decide),h1.e] at c1;cases c1
 · exact absurd rfl h2
 rw [if_neg (by rw [hC.e];decide)] at c1 c2 c3 ⊢;dsimp only at c1 c2 c3 ⊢;have hCf:=hC.f;have hCy:=hC.y;clear hC;generalize (create empty (segN 0)).1=C at*;rw [hman] at c1 c2 c3 ⊢
 have hcn:get C.f nn=none:=by rw [hCf,if_neg hns.2.symm];rfl
 obtain ⟨hW1,_⟩:=zdk r1 ⟨1,[0],0,0⟩
 rcases zcX r1 zfI (fun _=>hcn) with h1 | ⟨_,h2,_⟩ | hW
 · rw [if_pos (by rw [h1.e];decide),h1.e] at c1;cases c1
 · rw [if_pos (by rw [h2];decide),h2] at c1;cases c1
 rw [if_neg (by rw [hW.e];decide)];have hWf:=hW.f;have hWy:=hW.y;clear hW c1 c2 c3;generalize (swap C ⟨1,[0],0,0⟩).1=W at*;refine ⟨rfl,⟨hW1,by simp,trivial,rfl,rfl,Int.le_refl _,by show (0:Int)<=_;decide,by rw [hman];exact zfI,⟨[],[],[],rfl,rfl,rfl,rfl,rfl,⟨⟨segN 0,⟨#[]⟩,0⟩,?_,rfl,Int.le_refl _⟩,rfl,by show (0:Int)<=_;omega⟩,Int.le_refl _,Int.le_refl _,.inl ⟨rfl,rfl,rfl,rfl⟩,⟨_,(hWf nm).trans (if_pos rfl),rfl,rfl⟩,fun _ n hn=>?_⟩,rfl⟩
 · show get W.f (segN 0)=_
   rw [hWf,if_neg hns.1,hCf,if_pos rfl]
 · have hn':get W.f n≠none:=hn
   rw [hWf] at hn'
   by_cases e1:n=nm
   · exact .inl e1
   · rw [if_neg e1,hCf] at hn'
     by_cases e2:n=segN 0
     · exact .inr (.inr ⟨⟨0,0,0⟩,List.mem_singleton.2 rfl,e2⟩)
     · rw [if_neg e2] at hn'
       exact absurd rfl hn'
end Lg
end Go.Proofs.YtgmppfpllogdcaaGreat

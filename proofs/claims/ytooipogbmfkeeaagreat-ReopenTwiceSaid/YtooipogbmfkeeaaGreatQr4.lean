/-
  Parts of what the laws of this seat stand on:StoRead,LogInv.
-/
import Derived.Test.YtooipogbmfkeeaaGreatQr1
import Derived.Test.YtooipogbmfkeeaaGreatQr3
set_option maxRecDepth 100000
set_option maxHeartbeats 6400000
namespace Go.Proofs.YtooipogbmfkeeaaGreat
namespace So
open Dp
structure Calm (D:Dk):Prop where
 x:D.x=false
 a:D.a=false
 c:D.c=0
theorem Calm.change {D:Dk} (h:Calm D) (l:List Fl):Dp.change D l 0=({D with f:=l},0)/\Calm {D with f:=l}:=by
 refine ⟨?_,h.x,h.a,h.c⟩;unfold Dp.change;rw [if_neg (by rw [h.x];decide),if_neg (by decide),if_neg (by rw [h.a];simp),if_neg (by rw [h.a];decide)]
theorem Calm.create {D:Dk} (h:Calm D) {n:ByteArray} (hn:Named n) (hg:get D.f n=none):Dp.create D n=({D with f:=withF D.f ⟨n,⟨#[]⟩,0⟩},0)/\Calm (Dp.create D n).1:=by
 have e:Dp.create D n=({D with f:=withF D.f ⟨n,⟨#[]⟩,0⟩},0):=by
  unfold Dp.create;rw [if_neg (by simpa using hn),hg];exact (h.change _).1
 rw [e];exact ⟨rfl,(h.change _).2⟩
theorem Calm.append {D:Dk} (h:Calm D) {n s:ByteArray} {f:Fl} (hg:get D.f n=some f):Dp.append D n s=({D with f:=withF D.f ⟨f.n,f.d++s,f.s⟩},0)/\Calm (Dp.append D n s).1:=by
 have e:Dp.append D n s=({D with f:=withF D.f ⟨f.n,f.d++s,f.s⟩},0):=by
  unfold Dp.append;rw [hg];dsimp only;rw [if_neg (by rw [h.c];exact fun h=>absurd h.1 (by decide))];exact (h.change _).1
 rw [e];exact ⟨rfl,(h.change _).2⟩
theorem Calm.sync {D:Dk} (h:Calm D) {n:ByteArray} {f:Fl} (hg:get D.f n=some f):Dp.sync D n=({D with f:=withF D.f ⟨f.n,f.d,f.d.size⟩},0)/\Calm (Dp.sync D n).1:=by
 have e:Dp.sync D n=({D with f:=withF D.f ⟨f.n,f.d,f.d.size⟩},0):=by
  unfold Dp.sync;rw [hg];exact (h.change _).1
 rw [e];exact ⟨rfl,(h.change _).2⟩
theorem Calm.rename {D:Dk} (h:Calm D) {n m:ByteArray} {f:Fl} (hg:get D.f n=some f) (hm:Named m):Dp.rename D n m=({D with f:=withF (without D.f n) ⟨m,f.d,f.s⟩},0)/\Calm (Dp.rename D n m).1:=by
 have e:Dp.rename D n m=({D with f:=withF (without D.f n) ⟨m,f.d,f.s⟩},0):=by
  unfold Dp.rename;rw [hg];dsimp only;rw [if_neg (by simpa using hm)];exact (h.change _).1
 rw [e];exact ⟨rfl,(h.change _).2⟩
theorem ziZ:Named nm/\Named nn:=⟨⟨by decide,by decide⟩,⟨by decide,by decide⟩⟩
theorem zlg {b:Int} (h0:0<=b) (h1:b<=1099511627776):Named (segN b):=by
 obtain ⟨n,rfl⟩:∃n:Nat,b=(n:Int):=⟨b.toNat,by omega⟩;have:(segN (n:Int)).size=14:=Np.name_len 115 (show n<=1099511627776 by omega);exact ⟨by omega,by omega⟩
theorem Calm.swapS {D:Dk} (h:Calm D) (hR:Right D) (hg:get D.f nn=none) (s:ByteArray):(swapS D s).2=0:=by
 have c1:=h.create ziZ.2 hg;have r1:=zel hR nn
 have g1:get (Dp.create D nn).1.f nn=some ⟨nn,⟨#[]⟩,0⟩:=by rw [c1.1];exact (zaZ hR.2.1 _ _).trans (if_pos rfl)
 have c2:=c1.2.append (s:=s) g1;have r2:=zgG r1 nn s
 have g2:∃f,get (Dp.append (Dp.create D nn).1 nn s).1.f nn=some f:=by rw [c2.1];exact ⟨_,(zaZ r1.2.1 _ _).trans (if_pos rfl)⟩
 obtain ⟨f2,g2⟩:=g2;have c3:=c2.2.sync g2
 have g3:∃f,get (Dp.sync (Dp.append (Dp.create D nn).1 nn s).1 nn).1.f nn=some f:=by rw [c3.1];exact ⟨_,(zaZ r2.2.1 _ _).trans (if_pos (get_mem g2).2.symm)⟩
 obtain ⟨f3,g3⟩:=g3;have c4:=c3.2.rename g3 ziZ.1
 have e1:(Dp.create D nn).2=0:=by rw [c1.1]
 have e2:(Dp.append (Dp.create D nn).1 nn s).2=0:=by rw [c2.1]
 have e3:(Dp.sync (Dp.append (Dp.create D nn).1 nn s).1 nn).2=0:=by rw [c3.1]
 have e4:(Dp.rename (Dp.sync (Dp.append (Dp.create D nn).1 nn s).1 nn).1 nn nm).2=0:=by rw [c4.1]
 unfold So.swapS;rw [if_neg (by rw [e1];decide),if_neg (by rw [e2];decide),if_neg (by rw [e2];decide),if_neg (by rw [e3];decide)];exact e4
theorem zf7:Qm.Ok ⟨1,[0],0,0⟩:=⟨by decide,by decide,by decide,by decide,fun i hi=>by
 obtain rfl:i=0:=by simpa using hi
 exact ⟨by decide,by decide,fun h=>absurd h (by decide)⟩,.inl ⟨rfl,rfl,rfl⟩,by decide,by decide⟩
theorem zfp {q:Int} (hq:0<=q):(zal empty).2=0/\Inv q (zal empty).1 []/\(zal empty).1.g=[⟨0,0,0⟩]:=by
 have h0:Calm empty:=⟨rfl,rfl,rfl⟩;have R0:=Right.empty;have c1:=h0.create (n:=segN 0) (zlg (by decide) (by decide)) rfl
 have e1:(Dp.create empty (segN 0)).2=0:=by rw [c1.1]
 have r1:=zel R0 (segN 0)
 have hd0:dat (Dp.create empty (segN 0)).1 (segN 0)=some []:=by rw [zhi R0 e1,if_pos rfl]
 have hg:get (Dp.create empty (segN 0)).1.f nn=none:=by
  rw [c1.1];exact (zaZ R0.2.1 _ _).trans (if_neg fun e=>(zbs (b:=0) (by decide) (by decide)).2 e.symm)
 unfold zal;rw [if_neg (by rw [e1];decide)];dsimp only;generalize Dp.create empty (segN 0)=C at*;have hm:man ⟨C.1,1,[⟨0,0,0⟩],0,0,0,0⟩=⟨1,[0],0,0⟩:=rfl;obtain ⟨w1,w2⟩:=zd4 r1 (man ⟨C.1,1,[⟨0,0,0⟩],0,0,0,0⟩)
 have w3:(swap C.1 (man ⟨C.1,1,[⟨0,0,0⟩],0,0,0,0⟩)).2=0:=by
  unfold swap;rw [hm,Qm.putM_yes zf7,if_neg (by decide),hg,if_neg (by decide)];exact c1.2.swapS r1 hg _
 rw [if_neg (by rw [w3];decide)];refine ⟨rfl,⟨w1,by simp,trivial,rfl,Int.le_refl _,Int.le_refl _,[],⟨0,0,0⟩,[],[],rfl,rfl,rfl,rfl,rfl,?_,rfl,by show (0:Int)<=_;omega⟩,rfl⟩;show dat (swap C.1 _).1 (segN 0)=_;rw [w2 _ (zbs (b:=0) (by decide) (by decide)).1 (zbs (b:=0) (by decide) (by decide)).2,hd0]
 rfl
def zdk (D:Dk) (b:Int):List Rp.Rec:=(Gp.full ((dat D (segN b)).getD []) b).1.map Prod.fst
def zco (S:St) (off:Int):Rp.Rec×Int:=
 if off<0\/S.x<=off then (Rp.zero,6)
 else match (S.g.flatMap fun g=>zdk S.d g.b).find? fun r=>decide (r.a=off) with
  | some r=>(r,0)
  | none=>(Rp.zero,11)
theorem zja {l:List Rp.Rec} (hok:∀r∈l,Rp.Ok r) {b:Int} (hr:Gp.Rise b l) (h0:0<=b) (h1:b<=1099511627776):(Gp.full (Rp.rowB l) b).1.map Prod.fst=l:=by
 have:=Gp.pls_rows l b 0 [] 0 hok hr (.inl ⟨rfl,rfl⟩);rw [List.append_nil] at this;rw [Gp.full_in (Rp.inB_mk h0 h1),List.drop_zero,this];exact Gp.withAt_fst l 0
theorem zbx:∀(b:Int) (l r:List Rp.Rec),Gp.Rise b (l++r)->Gp.Rise b l/\Gp.Rise (b+l.length) r
 | b,[],r,h=>⟨trivial,by simpa using h⟩
 | b,a::l,r,h=>by
  obtain ⟨h1,h2⟩:=zbx (b+1) l r h.2;refine ⟨⟨h.1,h1⟩,?_⟩;rw [List.length_cons,show b+((l.length+1:Nat):Int)=b+1+(l.length:Int) from by omega];exact h2
theorem Fulls.recs {D:Dk} {q:Int}:∀{t:List Rt.Sg} {b:Int} {rs:List Rp.Rec},Fulls D q t b rs->(∀r∈rs,Rp.Ok r)->Gp.Rise b rs->0<=b->b+rs.length<=1099511627776->(t.flatMap fun g=>zdk D g.b)=rs
 | [],_,_,h,_,_,_,_=>by rw [show _=[] from h];rfl
 | g::t,b,rs,⟨a1,l,r,a2,a3,a4,a5,a6,a7,a8,a9⟩,hok,hr,h0,h1=>by
  subst a2;rw [List.length_append] at h1;obtain ⟨i1,i2⟩:=zbx b l r hr;rw [List.flatMap_cons,a9.recs (fun y hy=>hok y (List.mem_append_right _ hy)) (by rw [a4];exact i2) (by omega) (by omega)]
  congr 1
  unfold zdk;rw [a1,a5];exact zja (fun y hy=>hok y (List.mem_append_left _ hy)) i1 h0 (by omega)
theorem zlN:∀(b:Int) (rs:List Rp.Rec),Gp.Rise b rs->∀i (h:i<rs.length),rs.find? (fun r=>decide (r.a=b+i))=some rs[i]
 | b,a::l,h,0,_=>by
  rw [List.find?_cons_of_pos (by have:=h.1;simp;omega)]
  rfl
 | b,a::l,h,i+1,hi=>by
  have:=zlN (b+1) l h.2 i (by simpa using hi);rw [List.find?_cons_of_neg (by have:=h.1;simp;omega),List.getElem_cons_succ];rw [<-this]
  congr 1
  funext r
  congr 1
  exact propext ⟨fun h=>by omega,fun h=>by omega⟩
end So
namespace Lg
open Dp So
def Fulls (D:Dk) (q:Int):List Rt.Sg->Int->List Rp.Rec->Prop
 | [],_,rs=>rs=[]
 | g::t,b,rs=>g.b=b/\∃l r,rs=l++r/\l≠[]/\g.n=(l.length:Int)/\Whole D (segN b) (Rp.rowB l)/\g.z=((Rp.rowB l).length:Int)/\q<=g.z/\g.z<=q+90/\Fulls D q t (b+g.n) r
theorem Fulls.so {D:Dk} {q:Int}:∀{t:List Rt.Sg} {b:Int} {rs:List Rp.Rec},Fulls D q t b rs->So.Fulls D q t b rs
 | [],_,_,h=>h
 | _::_,_,_,⟨h1,l,r,h2,h3,h4,h5,h6,h7,h8,h9⟩=>⟨h1,l,r,h2,h3,h4,h5.dat,h6,h7,h8,h9.so⟩
theorem Fulls.bases {D:Dk} {q:Int} {t:List Rt.Sg} {b:Int} {rs:List Rp.Rec} (h:Fulls D q t b rs):∀g∈t,b<=g.b/\g.b<b+rs.length:=h.so.bases
theorem Fulls.keep {D D':Dk} {q:Int}:∀{t:List Rt.Sg} {b:Int} {rs:List Rp.Rec},Fulls D q t b rs->(∀g∈t,get D'.f (segN g.b)=get D.f (segN g.b))->Fulls D' q t b rs
 | [],_,_,h,_=>h
 | g::t,b,rs,⟨h1,l,r,h2,h3,h4,h5,h6,h7,h8,h9⟩,hk=>
  ⟨h1,l,r,h2,h3,h4,h5.keep (by rw [<-h1];exact hk g mcs),h6,h7,h8,h9.keep fun x hx=>hk x (mcm hx)⟩
theorem Fulls.snoc {D:Dk} {q:Int} {g:Rt.Sg} {l2:List Rp.Rec}:∀{t:List Rt.Sg} {b:Int} {rs:List Rp.Rec},Fulls D q t b rs->g.b=b+rs.length->l2≠[]->g.n=(l2.length:Int)->Whole D (segN g.b) (Rp.rowB l2)->g.z=((Rp.rowB l2).length:Int)->q<=g.z->g.z<=q+90->Fulls D q (t++[g]) b (rs++l2)
 | [],b,rs,h,h1,h2,h3,h4,h5,h6,h7=>by
  obtain rfl:rs=[]:=h
  have hb:g.b=b:=by simpa using h1
  refine ⟨hb,l2,[],by simp,h2,h3,by rw [<-hb];exact h4,h5,h6,h7,rfl⟩
 | a::t,b,rs,⟨a1,l,r,a2,a3,a4,a5,a6,a7,a8,a9⟩,h1,h2,h3,h4,h5,h6,h7=>by
  subst a2;rw [List.length_append] at h1;exact ⟨a1,l,r++l2,by rw [List.append_assoc],a3,a4,a5,a6,a7,a8,a9.snoc (by omega) h2 h3 h4 h5 h6 h7⟩
theorem zeh (l:List Rp.Rec) (k:Nat):(Rp.rowB (l.take k)).length<=(Rp.rowB l).length:=by
 have e:Rp.rowB l=Rp.rowB (l.take k)++Rp.rowB (l.drop k):=by
  unfold Rp.rowB;rw [<-Fr.row_append, <-List.map_append,List.take_append_drop]
 rw [e,List.length_append];omega
def Tail (D:Dk) (b:Int) (r:List Rp.Rec) (s:Int):Prop:=∃f,get D.f (segN b)=some f/\f.d.data.toList=Rp.rowB r/\((Rp.rowB (r.take (s-b).toNat)).length:Int)<=f.s
theorem Tail.keep {D D':Dk} {b s:Int} {r:List Rp.Rec} (h:Tail D b r s) (e:get D'.f (segN b)=get D.f (segN b)):Tail D' b r s:=by
 obtain ⟨f,h1,h2⟩:=h;exact ⟨f,e.trans h1,h2⟩
theorem Tail.dat {D:Dk} {b s:Int} {r:List Rp.Rec} (h:Tail D b r s):So.dat D (segN b)=some (Rp.rowB r):=by
 obtain ⟨f,h1,h2,_⟩:=h;unfold So.dat;rw [h1, <-h2]
 rfl
def Nms (F:Int) (g:List Rt.Sg) (n:ByteArray):Prop:=n=nm\/(0<F/\n=snapN F)\/ ∃a∈g,n=segN a.b
structure Log (q:Int) (S:St) (F:Int) (s0:List Fp.Pr) (rs:List Rp.Rec):Prop where
 dr:Right S.d
 ok:∀r∈rs,Rp.Ok r
 up:Gp.Rise F rs
 fl:floor S=F
 x:S.x=F+rs.length
 f0:0<=F
 fx:S.x<=1099511627776
 mo:Qm.Ok (man S)
 seg:∃t l r,S.g=t++[lastG S]/\rs=l++r/\Fulls S.d q t F l/\(lastG S).b=F+l.length/\(lastG S).n=(r.length:Int)/\Tail S.d (lastG S).b r S.s/\(lastG S).z=((Rp.rowB r).length:Int)/\(lastG S).z<=q+90
 lo:(lastG S).b<=S.s
 hi:S.s<=S.x
 sn:(F=0/\s0=[]/\S.z=0/\S.c=0)\/(0<F/\Fp.St s0/\S.z=((Fp.bytes s0).length:Int)/\S.c=(Cp.sum 0 (Fp.bytes s0):Int)/\Whole S.d (snapN F) (Fp.bytes s0))
 mf:Whole S.d nm (Qm.putM (man S)).1
 cl:S.d.x=false->∀n,get S.d.f n≠none->Nms F S.g n
variable {q F:Int} {S:St} {s0:List Fp.Pr} {rs:List Rp.Rec}
theorem Log.bases (h:Log q S F s0 rs):F<=(lastG S).b/\(lastG S).b<=S.x/\∀a∈S.g,F<=a.b/\a.b<=(lastG S).b:=by
 obtain ⟨t,l,r,e1,e2,e3,e4,_⟩:=h.seg;have hx:=h.x
 have hl:rs.length=l.length+r.length:=by rw [e2,List.length_append]
 refine ⟨by omega,by omega,fun a ha=>?_⟩;rw [e1] at ha
 rcases List.mem_append.1 ha with ha | ha
 · have:=e3.bases a ha
   omega
 · rw [List.mem_singleton] at ha
   rw [ha]
   omega
theorem Log.last_mem (h:Log q S F s0 rs):lastG S∈S.g:=by
 obtain ⟨t,l,r,e1,_⟩:=h.seg;rw [e1]
 simp
theorem Log.not_nn (h:Log q S F s0 rs) {n:ByteArray} (hn:Nms F S.g n):n≠nn:=by
 obtain ⟨b1,b2,b3⟩:=h.bases;have:=h.fx;have:=h.f0
 rcases hn with rfl | ⟨_,rfl⟩ | ⟨a,ha,rfl⟩
 · exact nmn
 · exact (zc8 (by omega) (by omega)).2
 · have:=b3 a ha
   exact (zbs (by omega) (by omega)).2
theorem Log.not_new (h:Log q S F s0 rs) {y:Int} (hb:(lastG S).b<y) (hy:y<=1099511627776) {n:ByteArray} (hn:Nms F S.g n):n≠segN y:=by
 obtain ⟨b1,b2,b3⟩:=h.bases;have:=h.fx;have:=h.f0
 rcases hn with rfl | ⟨_,rfl⟩ | ⟨a,ha,rfl⟩
 · exact (zbs (by omega) hy).1.symm
 · exact zbn (by omega) (by omega) (by omega) hy
 · have:=b3 a ha
   intro e
   have:=zc9 (by omega) (by omega) (by omega) hy e;omega
theorem Log.disk (h:Log q S F s0 rs) {D':Dk} (hR:Right D') (hf:∀n,Nms F S.g n->get D'.f n=get S.d.f n) (hc:D'.x=false->∀n,get D'.f n≠none->Nms F S.g n):Log q {S with d:=D'} F s0 rs:=by
 obtain ⟨t,l,r,e1,e2,e3,e4,e5,e6,e7,e8⟩:=h.seg;refine ⟨hR,h.ok,h.up,h.fl,h.x,h.f0,h.fx,h.mo,⟨t,l,r,e1,e2,e3.keep fun g hg=>hf _ (.inr (.inr ⟨g,by rw [e1];exact List.mem_append_left _ hg,rfl⟩)),e4,e5,e6.keep (hf _ (.inr (.inr ⟨_,h.last_mem,rfl⟩))),e7,e8⟩,h.lo,h.hi,?_,h.mf.keep (hf _ (.inl rfl)),hc⟩
 rcases h.sn with h1 | ⟨h1,h2,h3,h4,h5⟩
 · exact .inl h1
 · exact .inr ⟨h1,h2,h3,h4,h5.keep (hf _ (.inr (.inl ⟨h1,rfl⟩)))⟩
theorem Log.dead (h:Log q S F s0 rs) {D':Dk} (hR:Right D') (hx:D'.x=true) (hf:∀n,Nms F S.g n->get D'.f n=get S.d.f n):Log q {S with d:=D'} F s0 rs:=
 h.disk hR hf fun e=>by rw [hx] at e;cases e
theorem Log.arm (h:Log q S F s0 rs) (k:Int):Log q {S with d:=arm S.d k} F s0 rs:=h.disk (right6 h.dr k) (fun _ _=>rfl) h.cl
theorem Log.limit (h:Log q S F s0 rs) (k:Int):Log q {S with d:=limit S.d k} F s0 rs:=h.disk (right7 h.dr k) (fun _ _=>rfl) h.cl
theorem Log.has_last (h:Log q S F s0 rs):get S.d.f (segN (lastG S).b)≠none:=by
 obtain ⟨t,l,r,_,_,_,_,_,⟨f,h1,_⟩,_⟩:=h.seg;rw [h1];simp
theorem Log.sync (h:Log q S F s0 rs):Log q (zap S).1 F s0 rs/\(((zap S).2=0/\(zap S).1.d.x=false/\(zap S).1.s=S.x/\∃t l r,S.g=t++[lastG S]/\rs=l++r/\Fulls (zap S).1.d q t F l/\Whole (zap S).1.d (segN (lastG S).b) (Rp.rowB r))\/((zap S).2=10/\(zap S).1.d.x=true/\(zap S).1.s=S.s)):=by
 have hR:=zgF h.dr (segN (lastG S).b);obtain ⟨t,l,r,e1,e2,e3,e4,e5,⟨f,f1,f2,f3⟩,e7,e8⟩:=h.seg
 rcases zc7 h.dr (segN (lastG S).b) with h1 | ⟨_,h1,_⟩ | ⟨f',h1,hD⟩
 · have e:zap S=({S with d:=(Dp.sync S.d (segN (lastG S).b)).1},10):=by
    unfold zap;rw [h1.e,if_neg (by decide)]
   rw [e];exact ⟨h.dead hR h1.x fun n _=>by rw [h1.f],.inr ⟨rfl,h1.x,rfl⟩⟩
 · exact absurd h1 h.has_last
 · rw [f1] at h1
   obtain rfl:=Option.some.inj h1
   have e:zap S=({{S with d:=(Dp.sync S.d (segN (lastG S).b)).1} with s:=S.x},0):=by
    unfold zap;rw [hD.e,if_pos rfl]
   have hDf:=hD.f;have hDy:=hD.y;have hDx:=hD.x;rw [e];generalize (Dp.sync S.d (segN (lastG S).b)).1=D at*;have hbl:F<=(lastG S).b/\(lastG S).b<=1099511627776:=⟨h.bases.1,by have:=h.bases.2.1;have:=h.fx;omega⟩;have hf0:=h.f0
   have ht:∀g∈t,get D.f (segN g.b)=get S.d.f (segN g.b):=fun g hg=>by
    have h5:=e3.bases g hg;rw [hDf,if_neg fun e=>?_];have:=zc9 (by omega) (by omega) (by omega) (by omega) e;omega
   have hw:Whole D (segN (lastG S).b) (Rp.rowB r):=⟨_,(hDf _).trans (if_pos rfl),f2,rfl⟩
   have hnm:get D.f nm=get S.d.f nm:=by rw [hDf,if_neg (zbs (by omega) (by omega)).1.symm]
   refine ⟨⟨hR,h.ok,h.up,h.fl,h.x,h.f0,h.fx,h.mo,⟨t,l,r,e1,e2,e3.keep ht,e4,e5,?_,e7,e8⟩,by have:=h.bases.2.1;exact this,Int.le_refl _,?_,h.mf.keep hnm,fun _ n hn=>?_⟩,.inl ⟨rfl,hDy,rfl,t,l,r,e1,e2,e3.keep ht,hw⟩⟩
   · obtain ⟨g,g1,g2,g3⟩:=hw
     refine ⟨g,g1,g2,?_⟩
     have:=zeh r (S.x-(lastG S).b).toNat;rw [g3,show g.d.size=g.d.data.toList.length from rfl,g2];exact Int.ofNat_le.2 this
   · rcases h.sn with h6 | ⟨h6,h7,h8,h9,h10⟩
     · exact .inl h6
     · exact .inr ⟨h6,h7,h8,h9,h10.keep (by rw [hDf,if_neg (zbn (by omega) (by omega) (by omega) (by omega))])⟩
   · have hn':get D.f n≠none:=hn
     rw [hDf] at hn'
     by_cases en:n=segN (lastG S).b
     · exact .inr (.inr ⟨_,h.last_mem,en⟩)
     · rw [if_neg en] at hn'
       exact h.cl hDx n hn'
theorem man_snoc {v z c y:Int} {l:List Int} (h:Qm.Ok ⟨v,l,z,c⟩) (hv:v<1099511627776) (hl:l.length<64) (h1:l.getD (l.length-1) 0<y) (h2:y<=1099511627776):Qm.Ok ⟨v+1,l++[y],z,c⟩:=by
 have n0:1<=l.length:=h.n0;have hz:0<=l.getD (l.length-1) 0:=(h.at_ (l.length-1) (by show _<l.length;omega)).1
 have ga:∀i,i<l.length->(l++[y]).getD i 0=l.getD i 0:=fun i hi=>by simp [List.getD_eq_getElem?_getD,List.getElem?_append_left hi]
 have gb:(l++[y]).getD l.length 0=y:=by simp [List.getD_eq_getElem?_getD]
 refine ⟨by have:=h.v0;show 1<=v+1;have:1<=v:=this;omega,by show v+1<=_;omega,by show 1<=(l++[y]).length;simp,by show (l++[y]).length<=64;simp;omega,fun i hi=>?_,?_,h.c⟩
 · have hi':i<l.length+1:=by have:i<(l++[y]).length:=hi;simpa using this
   show Qm.AtOk (l++[y]) i
   unfold Qm.AtOk
   by_cases e:i<l.length
   · have:=h.at_ i e
     rw [ga i e]
     refine ⟨this.1,this.2.1,fun h0=>?_⟩;rw [ga (i-1) (by omega)];exact this.2.2 h0
   · obtain rfl:i=l.length:=by omega
     rw [gb]
     refine ⟨by omega,h2,fun _=>?_⟩;rw [ga _ (by omega)];exact h1
 · show ((l++[y]).getD 0 0=0/\_)\/((l++[y]).getD 0 0≠0/\_)
   rw [ga 0 (by omega)]
   exact h.z
theorem map_last (l:List Rt.Sg):(l.map fun g=>g.b).getD (l.length-1) 0=(l.getD (l.length-1) Rt.zero).b:=by
 simp only [List.getD_eq_getElem?_getD,List.getElem?_map]
 rcases l[l.length-1]? with _ | a<;>rfl
theorem Log.roll (h:Log q S F s0 rs) (hq:0<q) (hz:q<=(lastG S).z) (hx:S.x<1099511627776) (hv:S.v<1099511627776):
 Log q (roll S).1 F s0 rs/\S.s<=(roll S).1.s/\(((roll S).2=0/\(lastG (roll S).1).z=0/\(roll S).1.d.x=false)\/(roll S).2=9\/((roll S).2=10/\(roll S).1.d.x=true)):=by
 have hs1:=h.hi;obtain ⟨hS,hsy⟩:=h.sync;have hgg:(zap S).1.g=S.g:=rfl;have hvv:(zap S).1.v=S.v:=rfl;have hxx:(zap S).1.x=S.x:=rfl;have hlz:lastG (zap S).1=lastG S:=rfl;unfold So.roll
 split
 · exact ⟨h,Int.le_refl _,.inr (.inl rfl)⟩
 rename_i h64
 split
 · rename_i h1
   rcases hsy with ⟨h2,_⟩ | ⟨h2,h3,h4⟩
   · exact absurd h2 h1
   · exact ⟨hS,by omega,.inr (.inr ⟨h2,h3⟩)⟩
 rename_i h1
 obtain ⟨_,hTx,hTs,t,l,r,e1,e2,e3,e4⟩:(zap S).2=0/\(zap S).1.d.x=false/\(zap S).1.s=S.x/\∃t l r,S.g=t++[lastG S]/\rs=l++r/\Fulls (zap S).1.d q t F l/\Whole (zap S).1.d (segN (lastG S).b) (Rp.rowB r):=by
  rcases hsy with h2 | ⟨h2,_⟩
  · exact h2
  · exact absurd h2 (by have:(zap S).2=0:=by simpa using h1
                        rw [this];decide)
 clear hsy h1
 have e5:(lastG S).b=F+l.length/\(lastG S).n=(r.length:Int)/\(lastG S).z=((Rp.rowB r).length:Int)/\(lastG S).z<=q+90:=by
  obtain ⟨t',l',r',e1',e2',e3',e4',e5',e6',e7',e8'⟩:=hS.seg;have hd:Rp.rowB r=Rp.rowB r':=Option.some.inj (e4.dat.symm.trans (by rw [<-hlz];exact e6'.dat));obtain ⟨t2,l2,r2,c1,c2,c3,c4,c5,c6,c7,c8⟩:=h.seg;have ht:t2=t:=(List.append_inj (c1.symm.trans e1) (by have h1:=congrArg List.length c1;have h2:=congrArg List.length e1;simp at h1 h2;omega)).1;subst ht
  have hll:l.length=l2.length:=by
   have a1:=e3.so;have a2:=c3.so
   have:∀{D D':Dk} {t:List Rt.Sg} {b:Int} {x y:List Rp.Rec},So.Fulls D q t b x->So.Fulls D' q t b y->x.length=y.length:=by
    intro D D' t
    induction t with
    | nil=>intro b x y hx hy;rw [show x=[] from hx,show y=[] from hy]
    | cons g t ih=>
     rintro b x y ⟨_,l,r,rfl,_,h4,_,_,_,_,h9⟩ ⟨_,l',r',rfl,_,h4',_,_,_,_,h9'⟩;rw [List.length_append,List.length_append,ih h9 h9']
     have:l.length=l'.length:=by omega
     omega
   exact this a1 a2
  have hrr:r=r2:=by
   have:=e2.symm.trans c2;exact (List.append_inj this hll).2
  subst hrr;exact ⟨by omega,c5,c7,c8⟩
 obtain ⟨e5,e6,e7,e8⟩:=e5;rw [<-hlz] at hz e5 e6 e7 e8 e4 e1;rw [<-hgg] at e1 h64;rw [<-hvv] at hv;rw [<-hxx] at hx
 have hTs':S.s<=(zap S).1.s:=by omega
 have hTs2:(zap S).1.s=(zap S).1.x:=hTs;clear hTs hlz hgg hvv hxx;generalize (zap S).1=T at*;have hTX:=hS.x;have hf0:=hS.f0
 have hr0:r≠[]:=by
  rintro rfl;rw [Rp.rowB_nil] at e7;simp at e7;omega
 have hrl:0<r.length:=List.length_pos_iff.2 hr0
 have hlen:rs.length=l.length+r.length:=by rw [e2,List.length_append]
 have hbx:(lastG T).b<T.x:=by omega
 have hbl:=hS.bases
 have hmo:Qm.Ok (man (more T T.d)):=by
  have:=man_snoc (v:=T.v) (l:=T.g.map fun g:Rt.Sg=>g.b) (z:=T.z) (c:=T.c) (y:=T.x) hS.mo hv (by rw [List.length_map];omega) (by rw [List.length_map,map_last];exact hbx) (by omega)
  have e:man (more T T.d)=⟨T.v+1,(T.g.map fun g:Rt.Sg=>g.b)++[T.x],T.z,T.c⟩:=by unfold man more;simp
  rw [e];exact this
 have hnew:∀n,Nms F T.g n->n≠segN T.x:=fun n hn=>hS.not_new hbx (by omega) hn;have hnn:∀n,Nms F T.g n->n≠nn:=fun n hn=>hS.not_nn hn;have hC1:=zel hS.dr (segN T.x);dsimp only
 rcases zca hS.dr (zfe (show 0<=T.x by omega) (by omega)) with h1 | ⟨h1,h2,_⟩ | ⟨hg,hC⟩
 · rw [if_pos (by rw [h1.e];decide),h1.e]
   exact ⟨hS.dead hC1 h1.x fun n _=>by rw [h1.f],hTs',.inr (.inr ⟨rfl,h1.x⟩)⟩
 · exact absurd rfl (hnew _ (hS.cl h1 _ h2))
 rw [if_neg (by rw [hC.e];decide)];have hCf:=hC.f;have hCy:=hC.y;clear hC;generalize (create T.d (segN T.x)).1=C at*
 have hcn:get C.f nn=none:=by
  rw [hCf,if_neg (zbs (by omega) (by omega)).2.symm]
  rcases hh:get T.d.f nn with _ | f
  · rfl
  · exact absurd rfl (hS.not_nn (hS.cl hTx nn (by rw [hh];simp)))
 obtain ⟨hW1,_⟩:=zd4 hC1 (man (more T C));have hmo':Qm.Ok (man (more T C)):=hmo
 rcases zdL hC1 hmo' (fun _=>hcn) with h1 | ⟨_,h2,h3,h4,_⟩ | hW
 · rw [if_neg (by rw [h1.e];decide),if_pos (by rw [h1.e];decide),h1.e]
   exact ⟨hS.dead hW1 h1.x fun n hn=>by rw [h1.f n (hnn n hn),hCf,if_neg (hnew n hn)],hTs',.inr (.inr ⟨rfl,h1.x⟩)⟩
 · rw [if_pos h2]
   generalize (swap C (man (more T C))).1=W at*
   have hX1:=zdX hW1 (segN T.x)
   rcases zbp hW1 (segN T.x) with h5 | ⟨_,h5,_⟩ | ⟨h5,hX⟩
   · rw [if_neg (by rw [h5.e];decide),h5.e]
     exact ⟨hS.dead hX1 h5.x fun n hn=>by rw [h5.f,h4,hCf,if_neg (hnew n hn)],hTs',.inr (.inr ⟨rfl,h5.x⟩)⟩
   · rw [h4,hCf,if_pos rfl] at h5;cases h5
   · rw [if_pos hX.e]
     refine ⟨hS.disk hX1 (fun n hn=>by rw [hX.f,if_neg (hnew n hn),h4,hCf,if_neg (hnew n hn)]) fun _ n hn=>?_,hTs',.inr (.inl rfl)⟩
     rw [hX.f] at hn
     by_cases en:n=segN T.x
     · rw [if_pos en] at hn;exact absurd rfl hn
     · rw [if_neg en,h4,hCf,if_neg en] at hn
       exact hS.cl hTx n hn
 · rw [if_neg (by rw [hW.e];decide),if_neg (by rw [hW.e];decide)]
   have hWf:=hW.f
   have hWy:=hW.y;clear hW;generalize hWW:(swap C (man (more T C))).1=W at*
   have hlg:lastG (more T W)=⟨T.x,0,0⟩:=by
    unfold lastG more;dsimp only;rw [zcr]
   have hfr:∀n,Nms F T.g n->n≠nm->get W.f n=get T.d.f n:=fun n hn h0=>by rw [hWf,if_neg h0,hCf,if_neg (hnew n hn)]
   have hsg:∀a∈T.g,get W.f (segN a.b)=get T.d.f (segN a.b):=fun a ha=>hfr _ (.inr (.inr ⟨a,ha,rfl⟩)) (by
    have:=hbl.2.2 a ha
    exact (zbs (by omega) (by omega)).1)
   refine ⟨⟨hW1,hS.ok,hS.up,?_,hS.x,hS.f0,hS.fx,hmo,⟨T.g,rs,[],?_,by simp,?_,?_,?_,?_,?_,?_⟩,?_,hS.hi,?_,?_,fun _ n hn=>?_⟩,hTs',.inl ⟨rfl,by rw [hlg],hWy⟩⟩
   · rw [<-hS.fl]
     show ((T.g++[_]).headD _).b=(T.g.headD _).b
     rw [e1]
     cases t<;>rfl
   · rw [hlg];rfl
   · show Fulls W q T.g F rs
     rw [e1,e2]
     refine (e3.keep fun a ha=>hsg a (by rw [e1];exact List.mem_append_left _ ha)).snoc e5 hr0 e6 (e4.keep (hsg _ hS.last_mem)) e7 hz e8
   · rw [hlg];exact hS.x
   · rw [hlg];rfl
   · rw [hlg]
     refine ⟨⟨segN T.x,⟨#[]⟩,0⟩,?_,rfl,?_⟩
     · show get W.f (segN T.x)=_
       rw [hWf,if_neg (zbs (by omega) (by omega)).1,hCf,if_pos rfl]
     · rw [List.take_nil];exact Int.le_refl _
   · rw [hlg];rfl
   · rw [hlg];show (0:Int)<=_;omega
   · rw [hlg]
     show T.x<=T.s
     omega
   · rcases hS.sn with h6 | ⟨h6,h7,h8,h9,h10⟩
     · exact .inl h6
     · exact .inr ⟨h6,h7,h8,h9,h10.keep (hfr _ (.inr (.inl ⟨h6,rfl⟩)) (zc8 (by omega) (by omega)).1)⟩
   · exact ⟨_,(hWf nm).trans (if_pos rfl),rfl,rfl⟩
   · have hn':get W.f n≠none:=hn
     show Nms F (T.g++[⟨T.x,0,0⟩]) n
     rw [hWf] at hn'
     by_cases e1:n=nm
     · exact .inl e1
     · rw [if_neg e1,hCf] at hn'
       by_cases e2:n=segN T.x
       · exact .inr (.inr ⟨⟨T.x,0,0⟩,by simp,e2⟩)
       · rw [if_neg e2] at hn'
         rcases hS.cl hTx n hn' with h1 | h1 | ⟨a,ha,h1⟩
         · exact .inl h1
         · exact .inr (.inl h1)
         · exact .inr (.inr ⟨a,List.mem_append_left _ ha,h1⟩)
end Lg
end Go.Proofs.YtooipogbmfkeeaaGreat

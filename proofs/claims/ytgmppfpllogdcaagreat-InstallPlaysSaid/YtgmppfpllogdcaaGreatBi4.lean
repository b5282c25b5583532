/-
  Parts of what the laws of this seat stand on:LogDisk,StoRead.
-/
import Derived.Test.YtgmppfpllogdcaaGreatBi1
import Derived.Test.YtgmppfpllogdcaaGreatBi3
set_option maxRecDepth 100000
set_option maxHeartbeats 6400000
namespace Go.Proofs.YtgmppfpllogdcaaGreat
namespace Lg
open Dp So
structure Dead (D:Dk) (R:Dk×Int):Prop where
 e:R.2=10
 x:R.1.x=true
 f:R.1.f=D.f
structure Done (D:Dk) (R:Dk×Int) (F:ByteArray->Option Fl):Prop where
 x:D.x=false
 e:R.2=0
 y:R.1.x=false
 f:∀m,get R.1.f m=F m
 c:R.1.c=D.c
theorem chg (D:Dk) (l:List Fl) (own:Int):Dead D (change D l own)\/(D.x=false/\own≠0/\change D l own=(D,own))\/(D.x=false/\own=0/\(change D l own).2=0/\(change D l own).1.x=false/\(change D l own).1.f=l/\(change D l own).1.c=D.c):=by
 rcases zaQ D l own with ⟨e,h⟩ | ⟨e,h1,h2⟩ | ⟨e,h0,h1,_⟩ | ⟨e,h0,h1,_⟩ | ⟨e,h0,h1,_⟩
 · exact .inl ⟨by rw [e],by rw [e];exact h,by rw [e]⟩
 · exact .inr (.inl ⟨h2,h1,e⟩)
 · exact .inl ⟨by rw [e],by rw [e],by rw [e]⟩
 · exact .inr (.inr ⟨h1,h0,by rw [e],by rw [e];exact h1,by rw [e],by rw [e]⟩)
 · exact .inr (.inr ⟨h1,h0,by rw [e],by rw [e];exact h1,by rw [e],by rw [e]⟩)
theorem zbn {D:Dk} (hR:Right D) {n:ByteArray} (hn:Named n):Dead D (create D n)\/(D.x=false/\get D.f n≠none/\create D n=(D,8))\/(get D.f n=none/\Done D (create D n) (fun m=>if m=n then some ⟨n,⟨#[]⟩,0⟩ else get D.f m)):=by
 unfold create;rw [if_neg (by simpa using hn)]
 split
 · rename_i h
   rcases chg D [] 8 with h1 | ⟨h1,_,h2⟩ | ⟨_,h1,_⟩
   · exact .inl h1
   · exact .inr (.inl ⟨h1,by intro e;rw [e] at h;simp at h,h2⟩)
   · cases h1
 · rename_i h
   rcases chg D (withF D.f ⟨n,⟨#[]⟩,0⟩) 0 with h1 | ⟨_,h1,_⟩ | ⟨h1,_,h2,h3,h4,h5⟩
   · exact .inl h1
   · exact absurd rfl h1
   · exact .inr (.inr ⟨by simpa using h,h1,h2,h3,fun m=>by rw [h4];exact za6 hR.2.1 _ _,h5⟩)
theorem zb5 {D:Dk} (hR:Right D) (n s:ByteArray):Dead D (Dp.append D n s)\/(D.x=false/\get D.f n=none/\Dp.append D n s=(D,7))\/(D.x=false/\0<D.c/\Dp.append D n s=(D,9))\/ ∃f,get D.f n=some f/\Done D (Dp.append D n s) (fun m=>if m=n then some ⟨n,f.d++s,f.s⟩ else get D.f m):=by
 unfold Dp.append
 split
 · rename_i h
   rcases chg D [] 7 with h1 | ⟨h1,_,h2⟩ | ⟨_,h1,_⟩
   · exact .inl h1
   · exact .inr (.inl ⟨h1,h,h2⟩)
   · cases h1
 · rename_i f h
   have hfn:=(get_mem h).2
   split
   · rename_i hc
     rcases chg D [] 9 with h1 | ⟨h1,_,h2⟩ | ⟨_,h1,_⟩
     · exact .inl h1
     · exact .inr (.inr (.inl ⟨h1,hc.1,h2⟩))
     · cases h1
   · rcases chg D (withF D.f ⟨f.n,f.d++s,f.s⟩) 0 with h1 | ⟨_,h1,_⟩ | ⟨h1,_,h2,h3,h4,h5⟩
     · exact .inl h1
     · exact absurd rfl h1
     · refine .inr (.inr (.inr ⟨f,h,h1,h2,h3,fun m=>?_,h5⟩))
       rw [h4,hfn]
       exact za6 hR.2.1 _ _
theorem zcd {D:Dk} (hR:Right D) (n:ByteArray):Dead D (sync D n)\/(D.x=false/\get D.f n=none/\sync D n=(D,7))\/ ∃f,get D.f n=some f/\Done D (sync D n) (fun m=>if m=n then some ⟨n,f.d,f.d.size⟩ else get D.f m):=by
 unfold sync
 split
 · rename_i h
   rcases chg D [] 7 with h1 | ⟨h1,_,h2⟩ | ⟨_,h1,_⟩
   · exact .inl h1
   · exact .inr (.inl ⟨h1,h,h2⟩)
   · cases h1
 · rename_i f h
   have hfn:=(get_mem h).2
   rcases chg D (withF D.f ⟨f.n,f.d,f.d.size⟩) 0 with h1 | ⟨_,h1,_⟩ | ⟨h1,_,h2,h3,h4,h5⟩
   · exact .inl h1
   · exact absurd rfl h1
   · refine .inr (.inr ⟨f,h,h1,h2,h3,fun m=>?_,h5⟩)
     rw [h4,hfn]
     exact za6 hR.2.1 _ _
theorem zlC {D:Dk} (hR:Right D) (n:ByteArray) {k:Int} {f:Fl} (h:get D.f n=some f) (hk:0<=k/\k<=(f.d.size:Int)):Dead D (cut D n k)\/Done D (cut D n k) (fun m=>if m=n then some ⟨n,f.d.extract 0 k.toNat,min f.s k⟩ else get D.f m):=by
 unfold cut;have hfn:=(get_mem h).2;rw [h];dsimp only;rw [if_neg (by omega)]
 rcases chg D (withF D.f ⟨f.n,f.d.extract 0 k.toNat,min f.s k⟩) 0 with h1 | ⟨_,h1,_⟩ | ⟨h1,_,h2,h3,h4,h5⟩
 · exact .inl h1
 · exact absurd rfl h1
 · refine .inr ⟨h1,h2,h3,fun m=>?_,h5⟩
   rw [h4,hfn]
   exact za6 hR.2.1 _ _
theorem zgu {D:Dk} (hR:Right D) (n m:ByteArray) (hm:Named m):Dead D (rename D n m)\/(D.x=false/\get D.f n=none/\rename D n m=(D,7))\/ ∃f,get D.f n=some f/\Done D (rename D n m) (fun x=>if x=m then some ⟨m,f.d,f.s⟩ else if x=n then none else get D.f x):=by
 unfold rename
 split
 · rename_i h
   rcases chg D [] 7 with h1 | ⟨h1,_,h2⟩ | ⟨_,h1,_⟩
   · exact .inl h1
   · exact .inr (.inl ⟨h1,h,h2⟩)
   · cases h1
 · rename_i f h
   rw [if_neg (by simpa using hm)]
   rcases chg D (withF (without D.f n) ⟨m,f.d,f.s⟩) 0 with h1 | ⟨_,h1,_⟩ | ⟨h1,_,h2,h3,h4,h5⟩
   · exact .inl h1
   · exact absurd rfl h1
   · refine .inr (.inr ⟨f,h,h1,h2,h3,fun x=>?_,h5⟩)
     rw [h4,za6 (hR.2.1.without n),zcC hR.2.1]
theorem zaP {D:Dk} (hR:Right D) (n:ByteArray):Dead D (delete D n)\/(D.x=false/\get D.f n=none/\delete D n=(D,7))\/(get D.f n≠none/\Done D (delete D n) (fun m=>if m=n then none else get D.f m)):=by
 unfold delete
 split
 · rename_i h
   rcases chg D [] 7 with h1 | ⟨h1,_,h2⟩ | ⟨_,h1,_⟩
   · exact .inl h1
   · exact .inr (.inl ⟨h1,h,h2⟩)
   · cases h1
 · rename_i f h
   rcases chg D (without D.f n) 0 with h1 | ⟨_,h1,_⟩ | ⟨h1,_,h2,h3,h4,h5⟩
   · exact .inl h1
   · exact absurd rfl h1
   · exact .inr (.inr ⟨by rw [h];simp,h1,h2,h3,fun m=>by rw [h4];exact zcC hR.2.1 _ _,h5⟩)
theorem zeb {b:Int} (h0:0<=b) (h1:b<=1099511627776) (c:UInt8):(Np.nameL c b).length=14:=by
 obtain ⟨n,rfl⟩:∃n:Nat,b=(n:Int):=⟨b.toNat,by omega⟩;exact Np.name_len c (by omega)
def snapN (b:Int):ByteArray:=⟨(Np.nameL 116 b).toArray⟩
theorem zbC {b:Int} (h0:0<=b) (h1:b<=1099511627776):snapN b≠nm/\snapN b≠nn:=by
 have hl:(snapN b).data.toList.length=14:=zeb h0 h1 116;exact ⟨fun e=>by rw [e] at hl;exact absurd hl (by decide),fun e=>by rw [e] at hl;exact absurd hl (by decide)⟩
theorem zdl {a b:Int} (h0:0<=a) (h1:a<=1099511627776) (h2:0<=b) (h3:b<=1099511627776) (h:snapN a=snapN b):a=b:=by
 obtain ⟨n,rfl⟩:∃n:Nat,a=(n:Int):=⟨a.toNat,by omega⟩;obtain ⟨m,rfl⟩:∃m:Nat,b=(m:Int):=⟨b.toNat,by omega⟩;have e:Np.nameL 116 (n:Int)=Np.nameL 116 (m:Int):=congrArg (fun x:ByteArray=>x.data.toList) h;rw [Np.name_inj (.inr rfl) (by omega) (by omega) e]
theorem zaz {a b:Int} (h0:0<=a) (h1:a<=1099511627776) (h2:0<=b) (h3:b<=1099511627776):snapN a≠segN b:=fun h=>by
 have e:Np.nameL 116 a=Np.nameL 115 b:=congrArg (fun x:ByteArray=>x.data.toList) h;unfold Np.nameL at e;rw [if_pos ⟨h0,h1⟩,if_pos ⟨h2,h3⟩] at e;exact absurd (List.cons.inj e).1 (by decide)
theorem ze1 {b:Int} (h0:0<=b) (h1:b<=1099511627776):Named (snapN b):=by
 have:(snapN b).size=14:=zeb h0 h1 116;exact ⟨by omega,by omega⟩
theorem zdD {b:Int} (h0:0<=b) (h1:b<=1099511627776):Named (segN b):=by
 have:(segN b).size=14:=zeb h0 h1 115;exact ⟨by omega,by omega⟩
theorem nmn:nm≠nn:=by decide
theorem ziE:Named nm/\Named nn:=⟨⟨by decide,by decide⟩,⟨by decide,by decide⟩⟩
def Whole (D:Dk) (n:ByteArray) (L:List UInt8):Prop:=∃f,get D.f n=some f/\f.d.data.toList=L/\f.s=(f.d.size:Int)
theorem Whole.keep {D D':Dk} {n:ByteArray} {L:List UInt8} (h:Whole D n L) (e:get D'.f n=get D.f n):Whole D' n L:=by
 obtain ⟨f,h1,h2⟩:=h;exact ⟨f,e.trans h1,h2⟩
theorem Whole.dat {D:Dk} {n:ByteArray} {L:List UInt8} (h:Whole D n L):dat D n=some L:=by
 obtain ⟨f,h1,h2,_⟩:=h;unfold So.dat;rw [h1, <-h2]
 rfl
structure Gone (D:Dk) (R:Dk×Int) (ns:ByteArray->Prop):Prop where
 e:R.2=10
 x:R.1.x=true
 f:∀n,¬ns n->get R.1.f n=get D.f n
theorem Dead.gone {D:Dk} {R:Dk×Int} (h:Dead D R) (ns:ByteArray->Prop):Gone D R ns:=⟨h.e,h.x,fun n _=>by rw [h.f]⟩
theorem zhi {D:Dk} (hR:Right D) (hn:D.x=false->get D.f nn=none) (s:ByteArray):
 Gone D (swapS D s) (fun n=>n=nn)\/(D.x=false/\(swapS D s).2=9/\(swapS D s).1.x=false/\(∀n,get (swapS D s).1.f n=get D.f n)/\0<D.c)\/Done D (swapS D s) (fun n=>if n=nm then some ⟨nm,s,s.size⟩ else get D.f n):=by
 have r1:=zdn hR nn;have r2:=zeU r1 nn s;have r3:=zeT r2 nn;unfold swapS
 rcases zbn hR ziE.2 with h1 | ⟨h1,h2,_⟩ | ⟨h1,hC⟩
 · rw [if_pos (by rw [h1.e];decide)]
   exact .inl (h1.gone _)
 · exact absurd (hn h1) h2
 rw [if_neg (by rw [hC.e];decide)];have hCf:=hC.f;have hCy:=hC.y;have hx:=hC.x;have hCc:=hC.c;clear hC;generalize (create D nn).1=C at*
 rcases zb5 r1 nn s with h3 | ⟨_,h4,_⟩ | ⟨h3,h4,h5⟩ | ⟨f,h4,hA⟩
 · rw [if_neg (by rw [h3.e];decide),if_pos (by rw [h3.e];decide)]
   exact .inl ⟨h3.e,h3.x,fun n hn=>by rw [h3.f,hCf,if_neg hn]⟩
 · rw [hCf,if_pos rfl] at h4;cases h4
 · rw [h5]
   dsimp only
   rw [if_pos rfl]
   rcases zaP r1 nn with h6 | ⟨_,h6,_⟩ | ⟨h6,hX⟩
   · rw [if_neg (by rw [h6.e];decide)]
     exact .inl ⟨h6.e,h6.x,fun n hn=>by show get (delete C nn).1.f n=_;rw [h6.f,hCf,if_neg hn]⟩
   · rw [hCf,if_pos rfl] at h6;cases h6
   · rw [if_pos hX.e]
     refine .inr (.inl ⟨hx,rfl,hX.y,fun n=>?_,by omega⟩)
     show get (delete C nn).1.f n=_;rw [hX.f]
     by_cases e:n=nn
     · rw [if_pos e,e,h1]
     · rw [if_neg e,hCf,if_neg e]
 · rw [hCf,if_pos rfl] at h4
   obtain rfl:=Option.some.inj h4
   rw [if_neg (by rw [hA.e];decide),if_neg (by rw [hA.e];decide)];have hAf:=hA.f;have hAc:=hA.c;clear hA;generalize (Dp.append C nn s).1=A at*
   rcases zcd r2 nn with h5 | ⟨_,h5,_⟩ | ⟨f,h5,hS⟩
   · rw [if_pos (by rw [h5.e];decide)]
     exact .inl ⟨h5.e,h5.x,fun n hn=>by rw [h5.f,hAf,if_neg hn,hCf,if_neg hn]⟩
   · rw [hAf,if_pos rfl] at h5;cases h5
   rw [hAf,if_pos rfl] at h5;obtain rfl:=Option.some.inj h5;rw [if_neg (by rw [hS.e];decide)];have hSf:=hS.f;have hSc:=hS.c;clear hS;generalize (sync A nn).1=B at*
   rcases zgu r3 nn nm ziE.1 with h6 | ⟨_,h6,_⟩ | ⟨f,h6,hN⟩
   · exact .inl ⟨h6.e,h6.x,fun n hn=>by rw [h6.f,hSf,if_neg hn,hAf,if_neg hn,hCf,if_neg hn]⟩
   · rw [hSf,if_pos rfl] at h6;cases h6
   rw [hSf,if_pos rfl] at h6;obtain rfl:=Option.some.inj h6;refine .inr (.inr ⟨hx,hN.e,hN.y,fun n=>?_,by rw [hN.c,hSc,hAc,hCc]⟩);rw [hN.f]
   have e0:(⟨#[]⟩:ByteArray)++s=s:=by ext1;simp
   by_cases e:n=nm
   · rw [if_pos e,if_pos e,e0]
   · rw [if_neg e,if_neg e]
     by_cases e2:n=nn
     · rw [if_pos e2,e2,h1]
     · rw [if_neg e2,hSf,if_neg e2,hAf,if_neg e2,hCf,if_neg e2]
theorem zke {D:Dk} {m:Qm.Mn} (hm:Qm.Ok m) (hx:D.x=true):swap D m=(D,10):=by
 have hc:∀(l:List Fl) (own:Int),change D l own=(D,10):=fun l own=>by unfold change;rw [if_pos hx]
 have h1:create D nn=(D,10):=by
  unfold create
  split
  · exact hc _ _
  · split<;>exact hc _ _
 have h2:delete D nn=(D,10):=by unfold delete;split<;>exact hc _ _
 have h3:∀s,swapS D s=(D,10):=fun s=>by unfold swapS;rw [h1,if_pos (by show (10:Int)≠0;decide)]
 unfold swap;rw [Qm.putM_yes hm,if_neg (by show ¬(0:Int)≠0;decide)]
 split
 · rw [h2,if_pos (by show (10:Int)≠0;decide)]
 · exact h3 _
theorem zcX {D:Dk} (hR:Right D) {m:Qm.Mn} (hm:Qm.Ok m) (hn:D.x=false->get D.f nn=none):
 Gone D (swap D m) (fun n=>n=nn)\/(D.x=false/\(swap D m).2=9/\(swap D m).1.x=false/\(∀n,get (swap D m).1.f n=get D.f n)/\0<D.c)\/Done D (swap D m) (fun n=>if n=nm then some ⟨nm,⟨(Qm.putM m).1.toArray⟩,(⟨(Qm.putM m).1.toArray⟩:ByteArray).size⟩ else get D.f n):=by
 by_cases hx:D.x=true
 · rw [zke hm hx];exact .inl ⟨rfl,hx,fun _ _=>rfl⟩
 · have hx:D.x=false:=by simpa using hx
   have e:swap D m=swapS D ⟨(Qm.putM m).1.toArray⟩:=by
    unfold swap;rw [if_neg (by rw [Qm.putM_yes hm];show ¬(0:Int)≠0;decide),if_neg (by rw [hn hx];decide)]
   rw [e];exact zhi hR hn _
end Lg
namespace So
open Dp
structure Calm (D:Dk):Prop where
 x:D.x=false
 a:D.a=false
 c:D.c=0
theorem Calm.change {D:Dk} (h:Calm D) (l:List Fl):Dp.change D l 0=({D with f:=l},0)/\Calm {D with f:=l}:=by
 refine ⟨?_,h.x,h.a,h.c⟩;unfold Dp.change;rw [if_neg (by rw [h.x];decide),if_neg (by decide),if_neg (by rw [h.a];simp),if_neg (by rw [h.a];decide)]
theorem Calm.create {D:Dk} (h:Calm D) {n:ByteArray} (hn:Named n) (hg:get D.f n=none):Dp.create D n=({D with f:=withF D.f ⟨n,⟨#[]⟩,0⟩},0)/\Calm (Dp.create D n).1:=by
 have e:Dp.create D n=({D with f:=withF D.f ⟨n,⟨#[]⟩,0⟩},0):=by
  unfold Dp.create;rw [if_neg (by simpa using hn),hg];exact (h.change _).1
 rw [e];exact ⟨rfl,(h.change _).2⟩
theorem Calm.append {D:Dk} (h:Calm D) {n s:ByteArray} {f:Fl} (hg:get D.f n=some f):Dp.append D n s=({D with f:=withF D.f ⟨f.n,f.d++s,f.s⟩},0)/\Calm (Dp.append D n s).1:=by
 have e:Dp.append D n s=({D with f:=withF D.f ⟨f.n,f.d++s,f.s⟩},0):=by
  unfold Dp.append;rw [hg];dsimp only;rw [if_neg (by rw [h.c];exact fun h=>absurd h.1 (by decide))];exact (h.change _).1
 rw [e];exact ⟨rfl,(h.change _).2⟩
theorem Calm.sync {D:Dk} (h:Calm D) {n:ByteArray} {f:Fl} (hg:get D.f n=some f):Dp.sync D n=({D with f:=withF D.f ⟨f.n,f.d,f.d.size⟩},0)/\Calm (Dp.sync D n).1:=by
 have e:Dp.sync D n=({D with f:=withF D.f ⟨f.n,f.d,f.d.size⟩},0):=by
  unfold Dp.sync;rw [hg];exact (h.change _).1
 rw [e];exact ⟨rfl,(h.change _).2⟩
theorem Calm.rename {D:Dk} (h:Calm D) {n m:ByteArray} {f:Fl} (hg:get D.f n=some f) (hm:Named m):Dp.rename D n m=({D with f:=withF (without D.f n) ⟨m,f.d,f.s⟩},0)/\Calm (Dp.rename D n m).1:=by
 have e:Dp.rename D n m=({D with f:=withF (without D.f n) ⟨m,f.d,f.s⟩},0):=by
  unfold Dp.rename;rw [hg];dsimp only;rw [if_neg (by simpa using hm)];exact (h.change _).1
 rw [e];exact ⟨rfl,(h.change _).2⟩
theorem ziD:Named nm/\Named nn:=⟨⟨by decide,by decide⟩,⟨by decide,by decide⟩⟩
theorem zk2 {b:Int} (h0:0<=b) (h1:b<=1099511627776):Named (segN b):=by
 obtain ⟨n,rfl⟩:∃n:Nat,b=(n:Int):=⟨b.toNat,by omega⟩;have:(segN (n:Int)).size=14:=Np.name_len 115 (show n<=1099511627776 by omega);exact ⟨by omega,by omega⟩
theorem Calm.swapS {D:Dk} (h:Calm D) (hR:Right D) (hg:get D.f nn=none) (s:ByteArray):(swapS D s).2=0:=by
 have c1:=h.create ziD.2 hg;have r1:=zdn hR nn
 have g1:get (Dp.create D nn).1.f nn=some ⟨nn,⟨#[]⟩,0⟩:=by rw [c1.1];exact (za6 hR.2.1 _ _).trans (if_pos rfl)
 have c2:=c1.2.append (s:=s) g1;have r2:=zeU r1 nn s
 have g2:∃f,get (Dp.append (Dp.create D nn).1 nn s).1.f nn=some f:=by rw [c2.1];exact ⟨_,(za6 r1.2.1 _ _).trans (if_pos rfl)⟩
 obtain ⟨f2,g2⟩:=g2;have c3:=c2.2.sync g2
 have g3:∃f,get (Dp.sync (Dp.append (Dp.create D nn).1 nn s).1 nn).1.f nn=some f:=by rw [c3.1];exact ⟨_,(za6 r2.2.1 _ _).trans (if_pos (get_mem g2).2.symm)⟩
 obtain ⟨f3,g3⟩:=g3;have c4:=c3.2.rename g3 ziD.1
 have e1:(Dp.create D nn).2=0:=by rw [c1.1]
 have e2:(Dp.append (Dp.create D nn).1 nn s).2=0:=by rw [c2.1]
 have e3:(Dp.sync (Dp.append (Dp.create D nn).1 nn s).1 nn).2=0:=by rw [c3.1]
 have e4:(Dp.rename (Dp.sync (Dp.append (Dp.create D nn).1 nn s).1 nn).1 nn nm).2=0:=by rw [c4.1]
 unfold So.swapS;rw [if_neg (by rw [e1];decide),if_neg (by rw [e2];decide),if_neg (by rw [e2];decide),if_neg (by rw [e3];decide)];exact e4
theorem zfI:Qm.Ok ⟨1,[0],0,0⟩:=⟨by decide,by decide,by decide,by decide,fun i hi=>by
 obtain rfl:i=0:=by simpa using hi
 exact ⟨by decide,by decide,fun h=>absurd h (by decide)⟩,.inl ⟨rfl,rfl,rfl⟩,by decide,by decide⟩
theorem zjN {q:Int} (hq:0<=q):(zal empty).2=0/\Inv q (zal empty).1 []/\(zal empty).1.g=[⟨0,0,0⟩]:=by
 have h0:Calm empty:=⟨rfl,rfl,rfl⟩;have R0:=Right.empty;have c1:=h0.create (n:=segN 0) (zk2 (by decide) (by decide)) rfl
 have e1:(Dp.create empty (segN 0)).2=0:=by rw [c1.1]
 have r1:=zdn R0 (segN 0)
 have hd0:dat (Dp.create empty (segN 0)).1 (segN 0)=some []:=by rw [zg0 R0 e1,if_pos rfl]
 have hg:get (Dp.create empty (segN 0)).1.f nn=none:=by
  rw [c1.1];exact (za6 R0.2.1 _ _).trans (if_neg fun e=>(za2 (b:=0) (by decide) (by decide)).2 e.symm)
 unfold zal;rw [if_neg (by rw [e1];decide)];dsimp only;generalize Dp.create empty (segN 0)=C at*;have hm:man ⟨C.1,1,[⟨0,0,0⟩],0,0,0,0⟩=⟨1,[0],0,0⟩:=rfl;obtain ⟨w1,w2⟩:=zdk r1 (man ⟨C.1,1,[⟨0,0,0⟩],0,0,0,0⟩)
 have w3:(swap C.1 (man ⟨C.1,1,[⟨0,0,0⟩],0,0,0,0⟩)).2=0:=by
  unfold swap;rw [hm,Qm.putM_yes zfI,if_neg (by decide),hg,if_neg (by decide)];exact c1.2.swapS r1 hg _
 rw [if_neg (by rw [w3];decide)];refine ⟨rfl,⟨w1,by simp,trivial,rfl,Int.le_refl _,Int.le_refl _,[],⟨0,0,0⟩,[],[],rfl,rfl,rfl,rfl,rfl,?_,rfl,by show (0:Int)<=_;omega⟩,rfl⟩;show dat (swap C.1 _).1 (segN 0)=_;rw [w2 _ (za2 (b:=0) (by decide) (by decide)).1 (za2 (b:=0) (by decide) (by decide)).2,hd0]
 rfl
def zc5 (D:Dk) (b:Int):List Rp.Rec:=(Gp.full ((dat D (segN b)).getD []) b).1.map Prod.fst
def zb6 (S:St) (off:Int):Rp.Rec×Int:=
 if off<0\/S.x<=off then (Rp.zero,6)
 else match (S.g.flatMap fun g=>zc5 S.d g.b).find? fun r=>decide (r.a=off) with
  | some r=>(r,0)
  | none=>(Rp.zero,11)
theorem ziM {l:List Rp.Rec} (hok:∀r∈l,Rp.Ok r) {b:Int} (hr:Gp.Rise b l) (h0:0<=b) (h1:b<=1099511627776):(Gp.full (Rp.rowB l) b).1.map Prod.fst=l:=by
 have:=Gp.pls_rows l b 0 [] 0 hok hr (.inl ⟨rfl,rfl⟩);rw [List.append_nil] at this;rw [Gp.full_in (Rp.inB_mk h0 h1),List.drop_zero,this];exact Gp.withAt_fst l 0
theorem zbw:∀(b:Int) (l r:List Rp.Rec),Gp.Rise b (l++r)->Gp.Rise b l/\Gp.Rise (b+l.length) r
 | b,[],r,h=>⟨trivial,by simpa using h⟩
 | b,a::l,r,h=>by
  obtain ⟨h1,h2⟩:=zbw (b+1) l r h.2;refine ⟨⟨h.1,h1⟩,?_⟩;rw [List.length_cons,show b+((l.length+1:Nat):Int)=b+1+(l.length:Int) from by omega];exact h2
theorem Fulls.recs {D:Dk} {q:Int}:∀{t:List Rt.Sg} {b:Int} {rs:List Rp.Rec},Fulls D q t b rs->(∀r∈rs,Rp.Ok r)->Gp.Rise b rs->0<=b->b+rs.length<=1099511627776->(t.flatMap fun g=>zc5 D g.b)=rs
 | [],_,_,h,_,_,_,_=>by rw [show _=[] from h];rfl
 | g::t,b,rs,⟨a1,l,r,a2,a3,a4,a5,a6,a7,a8,a9⟩,hok,hr,h0,h1=>by
  subst a2;rw [List.length_append] at h1;obtain ⟨i1,i2⟩:=zbw b l r hr;rw [List.flatMap_cons,a9.recs (fun y hy=>hok y (List.mem_append_right _ hy)) (by rw [a4];exact i2) (by omega) (by omega)]
  congr 1
  unfold zc5;rw [a1,a5];exact ziM (fun y hy=>hok y (List.mem_append_left _ hy)) i1 h0 (by omega)
theorem zlt:∀(b:Int) (rs:List Rp.Rec),Gp.Rise b rs->∀i (h:i<rs.length),rs.find? (fun r=>decide (r.a=b+i))=some rs[i]
 | b,a::l,h,0,_=>by
  rw [List.find?_cons_of_pos (by have:=h.1;simp;omega)]
  rfl
 | b,a::l,h,i+1,hi=>by
  have:=zlt (b+1) l h.2 i (by simpa using hi);rw [List.find?_cons_of_neg (by have:=h.1;simp;omega),List.getElem_cons_succ];rw [<-this]
  congr 1
  funext r
  congr 1
  exact propext ⟨fun h=>by omega,fun h=>by omega⟩
end So
end Go.Proofs.YtgmppfpllogdcaaGreat

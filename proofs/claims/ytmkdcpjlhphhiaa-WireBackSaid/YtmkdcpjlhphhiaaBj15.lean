/-
  Parts of what the laws of this seat stand on:WirDoc,WirBd.
-/
import Derived.Test.YtmkdcpjlhphhiaaBj1
import Derived.Test.YtmkdcpjlhphhiaaBj14
set_option maxRecDepth 100000
set_option maxHeartbeats 6400000
namespace Go.Proofs.Ytmkdcpjlhphhiaa
namespace Wr
open Qm Wq Mfs
theorem tup3 {α β:Type} {p:α×β×Bool} (h:p.2.2=false):p=(p.1,p.2.1,false):=by
 obtain ⟨a,b,c⟩:=p;dsimp only at h;subst h
 rfl
theorem tup2 {α β:Type} {p:α×β×Bool} {r:β} (h:p.2=(r,false)):p=(p.1,r,false):=by
 obtain ⟨a,b,c⟩:=p;dsimp only at h;rw [h]
theorem zbd {l r:List UInt8} {b:Bool} {x:Int}:numD l b=(x,r,false)↔numR l b=(x,r,false):=by
 cases b
 · exact Iff.rfl
 · constructor
   · intro h
     rw [zen] at h
     injection h with _ h;injection h with _ h
     cases h
   · intro h
     have:=(zaS h).1
     cases this
theorem zcK {n:Int} {l r t:List UInt8} {b:Bool} (h0:0<=n):zaW n l b=(t,r,false)↔zaE n l b=(t,r,false):=by
 cases b
 · exact Iff.rfl
 · constructor
   · intro h
     rw [zbg] at h
     injection h with _ h;injection h with _ h
     cases h
   · intro h
     have:=(zbq h h0).1
     cases this
def segD:Nat->List UInt8->Bool->List Int×List UInt8×Bool
 | 0,l,b=>([],l,b)
 | k+1,l,b=>((segD k l b).1++[(numD (segD k l b).2.1 (segD k l b).2.2).1],(numD (segD k l b).2.1 (segD k l b).2.2).2)
theorem zcg (l:List UInt8) (b:Bool):∀(k:Nat) (L:List Int) (r:List UInt8),segD k l b=(L,r,false)↔segR k l b=(L,r,false)
 | 0,L,r=>Iff.rfl
 | k+1,L,r=>by
  have ih:=zcg l b k
  constructor
  · intro h
    have h1:(numD (segD k l b).2.1 (segD k l b).2.2).2=(r,false):=(congrArg Prod.snd h)
    have h2:numD (segD k l b).2.1 (segD k l b).2.2=((numD (segD k l b).2.1 (segD k l b).2.2).1,r,false):=tup2 h1;have h3:=zbd.1 h2;have h4:=(zaS h3).1;have h5:segD k l b=((segD k l b).1,(segD k l b).2.1,false):=tup3 h4;have h6:=(ih _ _).1 h5;have hL:(segD k l b).1++[(numD (segD k l b).2.1 (segD k l b).2.2).1]=L:=congrArg Prod.fst h;rw [h4] at h3 hL;show ((segR k l b).1++[(numR (segR k l b).2.1 (segR k l b).2.2).1],(numR (segR k l b).2.1 (segR k l b).2.2).2.1,(numR (segR k l b).2.1 (segR k l b).2.2).2.2)=_;rw [h6];dsimp only;rw [h3];dsimp only;rw [hL]
  · intro h
    have h1:(numR (segR k l b).2.1 (segR k l b).2.2).2.2=false:=congrArg (fun p=>p.2.2) h
    have h2:numR (segR k l b).2.1 (segR k l b).2.2=((numR (segR k l b).2.1 (segR k l b).2.2).1,(numR (segR k l b).2.1 (segR k l b).2.2).2.1,false):=tup3 h1;have h4:=(zaS h2).1;have h5:segR k l b=((segR k l b).1,(segR k l b).2.1,false):=tup3 h4;have h6:=(ih _ _).2 h5;have h3:=zbd.2 h2;rw [h4] at h3;show ((segD k l b).1++[(numD (segD k l b).2.1 (segD k l b).2.2).1],(numD (segD k l b).2.1 (segD k l b).2.2).2)=_;rw [h6];dsimp only;rw [h3];rw [<-h];show _=((segR k l b).1++[(numR (segR k l b).2.1 (segR k l b).2.2).1],(numR (segR k l b).2.1 (segR k l b).2.2).2.1,(numR (segR k l b).2.1 (segR k l b).2.2).2.2);rw [h1,h4]
def Good (l:List UInt8) (m:Ms) (ok:Bool):Prop:=
 (ok=true->(m.k=1\/m.k=2\/m.k=3)->msgR offA l false=(m,[],false))/\(∀m',msgR offA l false=(m',[],false)->(m'.k=1\/m'.k=2\/m'.k=3)->ok=true/\m=m')
theorem zfF {l r:List UInt8} {m:Ms} (h:msgR offA l false=(m,r,false)) (hk:m.k=1\/m.k=2\/m.k=3):∃L l7,segR 7 l false=(L,l7,false)/\zaQ offA (m7 L) l7 false=(m,r,false)/\(m7 L).k=m.k:=by
 unfold msgR at h;have hm:(zaQ offA (m7 (segR 7 l false).1) (segR 7 l false).2.1 (segR 7 l false).2.2).1=m:=congrArg Prod.fst h
 have hk2:(m7 (segR 7 l false).1).k=m.k:=by rw [<-hm,zbL]
 have h1:=(zd8 (off:=offA) (m:=m7 (segR 7 l false).1) (l:=(segR 7 l false).2.1) (b:=(segR 7 l false).2.2) (by rw [hk2];exact hk) (by rw [h])).1;refine ⟨(segR 7 l false).1,(segR 7 l false).2.1,tup3 h1,?_,hk2⟩;rw [h1] at h;exact h
theorem zbn {l l7:List UInt8} {L:List Int} {b7:Bool} (h7:segD 7 l false=(L,l7,b7)) {m':Ms} (h:msgR offA l false=(m',[],false)) (hk:m'.k=1\/m'.k=2\/m'.k=3):b7=false/\zaQ offA (m7 L) l7 false=(m',[],false)/\(m7 L).k=m'.k:=by
 obtain ⟨L',l',h1,h2,h3⟩:=zfF h hk;have h4:=(zcg l false 7 L' l').2 h1;rw [h7] at h4
 injection h4 with e1 h4;injection h4 with e2 e3
 subst e1 e2 e3;exact ⟨rfl,h2,h3⟩
theorem zcu {l l7:List UInt8} {L:List Int} (h7:segD 7 l false=(L,l7,false)) {m:Ms} {r:List UInt8} {b:Bool} (h:zaQ offA (m7 L) l7 false=(m,r,b)):msgR offA l false=(m,r,b):=by
 unfold msgR;rw [(zcg l false 7 L l7).1 h7];exact h
theorem good_0 {l l7:List UInt8} {L:List Int} {b7 ok:Bool} {m:Ms} (h7:segD 7 l false=(L,l7,b7)) (hm:m.k=(m7 L).k) (k1:m.k≠1) (k2:m.k≠2) (k3:m.k≠3):Good l m ok:=by
 refine ⟨fun _ hk=>?_,fun m' h hk=>?_⟩
 · rcases hk with hk | hk | hk
   · exact absurd hk k1
   · exact absurd hk k2
   · exact absurd hk k3
 · have:=(zbn h7 h hk).2.2
   rw [<-hm] at this
   rw [<-this] at hk
   rcases hk with hk | hk | hk
   · exact absurd hk k1
   · exact absurd hk k2
   · exact absurd hk k3
theorem good_1 {l l7 l10:List UInt8} {L:List Int} {b7 b10 ok:Bool} {y0 y1 y2:Int} (h7:segD 7 l false=(L,l7,b7)) (hk:(m7 L).k=1) (h3:segD 3 l7 b7=([y0,y1,y2],l10,b10)) (hok:ok=true↔b10=false/\l10=[]):
 Good l {m7 L with wd:=y0,wt:=y1,x:=y2} ok:=by
 refine ⟨fun h _=>?_,fun m' h hm=>?_⟩
 · obtain ⟨rfl,rfl⟩:=hok.1 h
   have h4:=(zcg l7 b7 3 _ _).1 h3
   obtain rfl:b7=false:=(zbO l7 b7 3 (by rw [h4])).1;refine zcu h7 ?_;rw [zbN hk,h4]
   rfl
 · obtain ⟨rfl,h4,_⟩:=zbn h7 h hm
   rw [zbN hk] at h4
   injection h4 with e1 e2
   have h5:segR 3 l7 false=((segR 3 l7 false).1,[],false):=tup2 e2;have h6:=(zcg l7 false 3 _ _).2 h5;rw [h3] at h6
   injection h6 with f1 h6;injection h6 with f2 f3
   subst f2 f3;refine ⟨hok.2 ⟨rfl,rfl⟩,?_⟩;rw [<-e1, <-f1]
   rfl
theorem good_3 {l l7 l9 l10:List UInt8} {t:List UInt8} {L:List Int} {b7 b9 b10 ok:Bool} {y0 y1 sm:Int} {d:ByteArray} (h7:segD 7 l false=(L,l7,b7)) (hk:(m7 L).k=3) (h2:segD 2 l7 b7=([y0,y1],l9,b9)) (ht:zaW 4 l9 b9=(t,l10,b10))
 (hs:b10=false->sm=(val4 l9:Int)) (hd:b10=false->d=⟨l10.toArray⟩) (hok:ok=true↔b10=false):Good l {m7 L with z:=y0,x:=y1,s:=sm,d:=d} ok:=by
 refine ⟨fun h _=>?_,fun m' h hm=>?_⟩
 · obtain rfl:=hok.1 h
   have h4:=(zcK (by decide)).1 ht
   obtain rfl:b9=false:=(zbq h4 (by decide)).1;have h5:=(zcg l7 b7 2 _ _).1 h2;obtain rfl:b7=false:=(zbO l7 b7 2 (by rw [h5])).1;refine zcu h7 ?_;rw [zbM hk,h5];dsimp only
   have hl:¬l9.length<4:=by
    intro hl;rw [zby false (by omega)] at h4
    injection h4 with _ h4;injection h4 with _ h4
    cases h4
   have hsum:sumR l9 false=((val4 l9:Int),l10,false):=by
    have e2:(sumR l9 false).2=(l10,false):=by rw [zcf,h4]
    have e1:(sumR l9 false).1=(val4 l9:Int):=by unfold sumR;rw [if_neg hl]
    rw [<-e1, <-e2]
   rw [hsum];dsimp only;rw [hs rfl,hd rfl]
   rfl
 · obtain ⟨rfl,h4,_⟩:=zbn h7 h hm
   rw [zbM hk] at h4
   injection h4 with e1 h4;injection h4 with _ e2
   obtain ⟨h5,_⟩:=zfe e2;have h6:segR 2 l7 false=((segR 2 l7 false).1,(segR 2 l7 false).2.1,false):=tup3 h5;have h8:=(zcg l7 false 2 _ _).2 h6;rw [h2] at h8
   injection h8 with f1 h8;injection h8 with f2 f3
   subst f3;rw [<-f2,h5] at e2;rw [<-f1, <-f2,h5] at e1
   have hl:¬l9.length<4:=by
    intro hl
    have:(sumR l9 false).2.2=true:=by unfold sumR;rw [if_pos hl]
    rw [this] at e2
    cases e2
   have h9:zaE 4 l9 false=(l9.take 4,l9.drop 4,false):=zaV false (by omega);rw [zb2] at ht;rw [ht] at h9
   injection h9 with g1 h9;injection h9 with g2 g3
   subst g3;refine ⟨hok.2 rfl,?_⟩;rw [hs rfl,hd rfl, <-e1]
   have hsum:sumR l9 false=((val4 l9:Int),l10,false):=by unfold sumR;rw [if_neg hl,g2]
   rw [hsum]
   rfl
def recD (o:Int) (l:List UInt8) (b:Bool):Rp.Rec×List UInt8×Bool:=
 (⟨o,(numD l b).1,⟨(zaW (numD (numD l b).2.1 (numD l b).2.2).1 (numD (numD l b).2.1 (numD l b).2.2).2.1 (numD (numD l b).2.1 (numD l b).2.2).2.2).1.toArray⟩⟩,(zaW (numD (numD l b).2.1 (numD l b).2.2).1 (numD (numD l b).2.1 (numD l b).2.2).2.1 (numD (numD l b).2.1 (numD l b).2.2).2.2).2)
theorem recD_R {o:Int} {l r:List UInt8} {b:Bool} {x:Rp.Rec}:recD o l b=(x,r,false)↔recR o l b=(x,r,false):=by
 constructor
 · intro h
   have h1:(zaW (numD (numD l b).2.1 (numD l b).2.2).1 (numD (numD l b).2.1 (numD l b).2.2).2.1 (numD (numD l b).2.1 (numD l b).2.2).2.2).2=(r,false):=congrArg Prod.snd h
   obtain ⟨hn0,_,_⟩:=zcY (numD l b).2.1 (numD l b).2.2;have t1:=(zcK hn0).1 (show zaW (numD (numD l b).2.1 (numD l b).2.2).1 (numD (numD l b).2.1 (numD l b).2.2).2.1 (numD (numD l b).2.1 (numD l b).2.2).2.2=(_,r,false) from tup2 h1);have b2:=(zbq t1 hn0).1;have n2:=zbd.1 (tup3 b2);have b1:=(zaS n2).1;have n1:=zbd.1 (tup3 b1);have hx:(⟨o,(numD l b).1,⟨(zaW (numD (numD l b).2.1 (numD l b).2.2).1 (numD (numD l b).2.1 (numD l b).2.2).2.1 (numD (numD l b).2.1 (numD l b).2.2).2.2).1.toArray⟩⟩:Rp.Rec)=x:=congrArg Prod.fst h;rw [b1] at n2 b2 t1 hx;rw [b2] at t1 hx;unfold recR;rw [n1];dsimp only;rw [n2];dsimp only;rw [t1];dsimp only;rw [hx]
 · intro h
   have h1:(zaE (numR (numR l b).2.1 (numR l b).2.2).1 (numR (numR l b).2.1 (numR l b).2.2).2.1 (numR (numR l b).2.1 (numR l b).2.2).2.2).2=(r,false):=congrArg Prod.snd h
   obtain ⟨hn0,_,_⟩:=zaY (numR l b).2.1 (numR l b).2.2;have t0:zaE (numR (numR l b).2.1 (numR l b).2.2).1 (numR (numR l b).2.1 (numR l b).2.2).2.1 (numR (numR l b).2.1 (numR l b).2.2).2.2=(_,r,false):=tup2 h1;have b2:=(zbq t0 hn0).1;have n0:=tup3 b2;have b1:=(zaS n0).1;have m1:=zbd.2 (tup3 b1);have m2:=zbd.2 n0;have m3:=(zcK hn0).2 t0;have hx:(⟨o,(numR l b).1,⟨(zaE (numR (numR l b).2.1 (numR l b).2.2).1 (numR (numR l b).2.1 (numR l b).2.2).2.1 (numR (numR l b).2.1 (numR l b).2.2).2.2).1.toArray⟩⟩:Rp.Rec)=x:=congrArg Prod.fst h;rw [b1] at m2 b2 m3 hx;rw [b2] at m3 hx;unfold recD;rw [m1];dsimp only;rw [m2];dsimp only;rw [m3];dsimp only;rw [hx]
theorem recR_bad (o:Int) (l:List UInt8):(recR o l true).2.2=true:=by
 rcases h:(recR o l true).2.2 with _ | _
 · have:=(zfo (o:=o) (l:=l) (b:=true) (x:=(recR o l true).1) (r:=(recR o l true).2.1) (tup3 h)).1
   cases this
 · rfl
theorem zbi (o:Nat->Int) (l:List UInt8) (b:Bool) (k:Nat) (h:(zal o k l b).2.2=true):∀j,(zal o (k+j) l b).2.2=true
 | 0=>h
 | j+1=>by
  have ih:=zbi o l b k h j;show (recR (o (k+j)) (zal o (k+j) l b).2.1 (zal o (k+j) l b).2.2).2.2=true;rw [ih];exact recR_bad _ _
def Rd (o:Nat->Int) (l0:List UInt8) (b0:Bool) (k:Nat) (xs:List Rp.Rec) (l:List UInt8) (b:Bool):Prop:=
 xs.length=k/\(b=false->zal o k l0 b0=(xs,l,false))/\(b=true->∀j,(zal o (k+j) l0 b0).2.2=true)/\l.length<=l0.length/\∀x∈xs,Taken l0.length x/\∃i,x.a=o i
theorem Rd.start (o:Nat->Int) (l0:List UInt8) (b0:Bool):Rd o l0 b0 0 [] l0 b0:=by
 refine ⟨rfl,fun h=>by rw [h];rfl,fun h=>?_,Nat.le_refl _,by simp⟩;exact zbi o l0 b0 0 h
theorem recD_in (o:Int) (l:List UInt8) (b:Bool):(recD o l b).2.1.length<=l.length/\Taken l.length (recD o l b).1/\(recD o l b).1.a=o:=by
 obtain ⟨h1,h2,h3⟩:=zcY l b;obtain ⟨_,_,h4⟩:=zcY (numD l b).2.1 (numD l b).2.2;obtain ⟨h5,h6⟩:=textD_in (numD (numD l b).2.1 (numD l b).2.2).1 (numD (numD l b).2.1 (numD l b).2.2).2.1 (numD (numD l b).2.1 (numD l b).2.2).2.2
 have e:(recD o l b).1.d.size=(zaW (numD (numD l b).2.1 (numD l b).2.2).1 (numD (numD l b).2.1 (numD l b).2.2).2.1 (numD (numD l b).2.1 (numD l b).2.2).2.2).1.length:=by
  show (ByteArray.mk _).size=_
  simp [ByteArray.size]
 refine ⟨Nat.le_trans h6 (Nat.le_trans h4 h3),⟨h1,h2,?_⟩,rfl⟩;rw [e];exact Nat.le_trans h5 (Nat.le_trans h4 h3)
theorem Rd.next {o:Nat->Int} {l0:List UInt8} {b0:Bool} {k:Nat} {xs:List Rp.Rec} {l:List UInt8} (h:Rd o l0 b0 k xs l false):Rd o l0 b0 (k+1) (xs++[(recD (o k) l false).1]) (recD (o k) l false).2.1 (recD (o k) l false).2.2:=by
 obtain ⟨h1,h2,_,h4,h5⟩:=h;have h2:=h2 rfl;obtain ⟨i1,⟨i2,i3,i4⟩,i5⟩:=recD_in (o k) l false;refine ⟨by rw [List.length_append,h1];rfl,fun h=>?_,fun h=>?_,Nat.le_trans i1 h4,fun x hx=>?_⟩
 · have h3:=recD_R.1 (tup3 h)
   show (_,_)=_
   rw [h2];dsimp only;rw [h3]
 · refine zbi o l0 b0 (k+1) ?_
   show (recR (o k) (zal o k l0 b0).2.1 (zal o k l0 b0).2.2).2.2=true
   rw [h2];dsimp only
   rcases hq:(recR (o k) l false).2.2 with _ | _
   · have h3:=recD_R.2 (tup3 hq)
     rw [h3] at h
     cases h
   · rfl
 · rw [List.mem_append,List.mem_singleton] at hx
   rcases hx with hx | rfl
   · exact h5 x hx
   · exact ⟨⟨i2,i3,Nat.le_trans i4 h4⟩,k,i5⟩
theorem good_2 {l l7 l8 l9 le:List UInt8} {L:List Int} {b7 b8 b9 be ok:Bool} {hh n:Int} {k:Nat} {xs:List Rp.Rec} (h7:segD 7 l false=(L,l7,b7)) (hk:(m7 L).k=2) (h8:numD l7 b7=(hh,l8,b8)) (h9:numD l8 b8=(n,l9,b9)) (hn:n<=64) (hR:Rd (offA (m7 L).a) l9 b9 k xs le be) (hend:be=true\/(k:Int)=n) (hkn:(k:Int)<=n) (hok:ok=true↔be=false/\le=[]):
 Good l {m7 L with h:=hh,l:=xs} ok:=by
 obtain ⟨r1,r2,r3,_⟩:=hR;refine ⟨fun h _=>?_,fun m' h hm=>?_⟩
 · obtain ⟨rfl,rfl⟩:=hok.1 h
   have hkn2:(k:Int)=n:=by
    rcases hend with h | h
    · cases h
    · exact h
   have r2:=r2 rfl;obtain rfl:b9=false:=(zbC _ _ _ k (by rw [r2])).1;have n9:=zbd.1 h9;obtain rfl:b8=false:=(zaS n9).1;have n8:=zbd.1 h8;obtain rfl:b7=false:=(zaS n8).1;refine zcu h7 ?_;rw [zbv hk,n8];dsimp only;unfold za3;rw [n9];dsimp only;rw [if_neg (by omega), <-hkn2,Int.toNat_natCast,r2]
 · obtain ⟨rfl,h4,_⟩:=zbn h7 h hm
   rw [zbv hk] at h4
   injection h4 with e1 e2
   have e3:(za3 (offA (m7 L).a) (numR l7 false).2.1 (numR l7 false).2.2).2.2=false:=by rw [e2]
   obtain ⟨f1,_⟩:=zcU e3;have n8:numR l7 false=((numR l7 false).1,(numR l7 false).2.1,false):=tup3 f1;have n8':=zbd.2 n8;rw [h8] at n8'
   injection n8' with g1 n8';injection n8' with g2 g3
   subst g3;rw [f1, <-g2] at e1 e2;rw [<-g1] at e1;unfold za3 at e1 e2
   have q2:(zal (offA (m7 L).a) (numR l8 false).1.toNat (numR l8 false).2.1 (numR l8 false).2.2).2.2=false:=by
    by_cases hc:64<(numR l8 false).1
    · rw [if_pos hc] at e2
      injection e2 with _ e2
      cases e2
    · rw [if_neg hc] at e2
      rw [e2]
   have hc:¬64<(numR l8 false).1:=by
    intro hc;rw [if_pos hc] at e2
    injection e2 with _ e2
    cases e2
   rw [if_neg hc] at e1 e2;obtain ⟨f2,_⟩:=zbC _ _ _ _ q2;have n9:numR l8 false=((numR l8 false).1,(numR l8 false).2.1,false):=tup3 f2;have n9':=zbd.2 n9;rw [h9] at n9'
   injection n9' with g4 n9';injection n9' with g5 g6
   subst g6;rw [f2, <-g4, <-g5] at e1 e2 q2
   rcases be with _ | _
   · have hkn2:(k:Int)=n:=by
      rcases hend with h | h
      · cases h
      · exact h
     have r2:=r2 rfl;rw [<-hkn2,Int.toNat_natCast,r2] at e1 e2;dsimp only at e1 e2
     injection e2 with e2 _
     subst e2;exact ⟨hok.2 ⟨rfl,rfl⟩,e1⟩
   · have:=r3 rfl (n.toNat-k)
     rw [show k+(n.toNat-k)=n.toNat by omega] at this
     rw [this] at q2
     cases q2
theorem good_2n {l l7 l8 l9:List UInt8} {L:List Int} {b7 b8 b9:Bool} {hh n:Int} (h7:segD 7 l false=(L,l7,b7)) (hk:(m7 L).k=2) (h8:numD l7 b7=(hh,l8,b8)) (h9:numD l8 b8=(n,l9,b9)) (hn:64<n):Good l zero false:=by
 refine ⟨(fun h=>by cases h),fun m' h hm=>?_⟩
 exfalso
 obtain ⟨rfl,h4,_⟩:=zbn h7 h hm;rw [zbv hk] at h4
 injection h4 with e1 e2
 have e3:(za3 (offA (m7 L).a) (numR l7 false).2.1 (numR l7 false).2.2).2.2=false:=by rw [e2]
 obtain ⟨f1,_⟩:=zcU e3;have n8:numR l7 false=((numR l7 false).1,(numR l7 false).2.1,false):=tup3 f1;have n8':=zbd.2 n8;rw [h8] at n8'
 injection n8' with g1 n8';injection n8' with g2 g3
 subst g3;rw [f1, <-g2] at e3;unfold za3 at e3
 by_cases hc:64<(numR l8 false).1
 · rw [if_pos hc] at e3
   cases e3
 · rw [if_neg hc] at e3
   obtain ⟨f2,_⟩:=zbC _ _ _ _ e3
   have n9:numR l8 false=((numR l8 false).1,(numR l8 false).2.1,false):=tup3 f2;have n9':=zbd.2 n9;rw [h9] at n9'
   injection n9' with g4 _
   omega
end Wr
namespace Wr
open Go.RowKit Qm Wq Mfs
def Bw (w:World) (S:ByteArray) (r a:Nat) (l:List UInt8) (b:Bool) (W:World):Prop:=
 ∃k,k<=S.size/\S.data.toList.drop k=l/\CU S r k b W/\W.heap[a]?=some (.cells #[.int .i64 0,.int .i64 0,.int .i64 0,.int .i64 0,.int .i64 0,.int .i64 0,.int .i64 0,.int .i64 0,.int .i64 0,.int .i64 0,.int .i64 0,.int .i64 0,.int .u32 0,.string ⟨#[]⟩,.slice none 0 0] 25 (0,0))/\Below w.heap.size w W
theorem Bw.grown {w W W':World} {S:ByteArray} {r a:Nat} {l l':List UInt8} {b b':Bool} (h:Bw w S r a l b W) (ha:a≠r) (hr:w.heap.size<=r) (g:W.grownBy W' (some r)) {k:Nat} (hk:k<=S.size) (hd:S.data.toList.drop k=l') (hc:CU S r k b' W'):Bw w S r a l' b' W':=by
 obtain ⟨_,_,_,_,h4,h5⟩:=h
 exact ⟨k,hk,hd,hc,(g.block a (Array.getElem?_eq_some_iff.1 h4).1 (fun e=>by injection e with e;exact ha e)).trans h4,h5.grown g h5.size (fun q hq=>by injection hq with hq;omega)⟩
theorem Bw.alloc {w W:World} {S:ByteArray} {r a:Nat} {l:List UInt8} {b:Bool} (h:Bw w S r a l b W) (o:Obj):Bw w S r a l b (W.alloc o):=by
 obtain ⟨k,h1,h2,h3,h4,h5⟩:=h;have hb:=(Below.refl W.heap.size W).alloc (Nat.le_refl _) o;exact ⟨k,h1,h2,h3.keep hb,(hb.block a (Array.getElem?_eq_some_iff.1 h4).1).trans h4,h5.alloc h5.size o⟩
theorem Bw.set {w W:World} {S:ByteArray} {r a q:Nat} {l:List UInt8} {b:Bool} (h:Bw w S r a l b W) (h1:r≠q) (h2:a≠q) (h3:w.heap.size<=q) (j:Nat) (u:Value):Bw w S r a l b (W.setCell ⟨q,j,none⟩ u):=by
 obtain ⟨k,e1,e2,e3,e4,e5⟩:=h;exact ⟨k,e1,e2,e3.other h1 j u,(zaz W a q j u h2).trans e4,e5.setCell (p:=⟨q,j,none⟩) h3 u⟩
theorem Bw.drew {w W:World} {S:ByteArray} {r a:Nat} {l:List UInt8} {b:Bool} (h:Bw w S r a l b W):Bw w S r a l b W.drew:=by
 obtain ⟨k,e1,e2,e3,e4,e5⟩:=h;exact ⟨k,e1,e2,e3,e4,e5.drew⟩
theorem Bw.num {w W:World} {S:ByteArray} {r a:Nat} {l l':List UInt8} {b b':Bool} {x:Int} (h:Bw w S r a l b W) (ha:a≠r) (hr:w.heap.size<=r) (hS:S.size<=140737488351232) (e:numD l b=(x,l',b')):
 Calls Try.prog 51 #[.pointer (some ⟨r,0,none⟩)] W fun e w'=>e= .returned (.int .i64 x)/\Bw w S r a l' b' w'/\W.grownBy w' (some r):=by
 obtain ⟨k,h1,h2,h3,h4⟩:=h;have C:=cnum_any S r k b W h3 h1 hS;rw [h2,e] at C;refine C.mono ?_;rintro e w' ⟨k',g1,g2,rfl,g3,g4⟩;exact ⟨rfl,Bw.grown ⟨k,h1,h2,h3,h4⟩ ha hr g4 g1 g2 g3,g4⟩
theorem Bw.text {w W:World} {S:ByteArray} {r a:Nat} {l l' t:List UInt8} {b b':Bool} {n:Int} (h:Bw w S r a l b W) (ha:a≠r) (hr:w.heap.size<=r) (hS:S.size<=140737488351232) (h0:0<=n) (h1:n<=9223372036854775807) (e:zaW n l b=(t,l',b')):
 Calls Try.prog 52 #[.pointer (some ⟨r,0,none⟩),.int .i64 n] W fun e w'=>e= .returned (.string ⟨t.toArray⟩)/\Bw w S r a l' b' w'/\W.grownBy w' (some r):=by
 obtain ⟨k,e1,e2,e3,e4⟩:=h;have C:=zfN S r k n b W e3 e1 hS h0 h1;rw [e2,e] at C;refine C.mono ?_;rintro e w' ⟨k',g1,g2,rfl,g3,g4⟩;exact ⟨rfl,Bw.grown ⟨k,e1,e2,e3,e4⟩ ha hr g4 g1 g2 g3,g4⟩
def Bm (w:World) (S:ByteArray) (r a q:Nat) (cs:Array Value) (l:List UInt8) (b:Bool) (W:World):Prop:=Bw w S r a l b W/\W.heap[q]?=some (.cells cs 25 (0,0))
theorem Bm.call {w W W':World} {S:ByteArray} {r a q:Nat} {cs:Array Value} {l l':List UInt8} {b b':Bool} (h:Bm w S r a q cs l b W) (hq:q≠r) (h2:Bw w S r a l' b' W') (g:W.grownBy W' (some r)):Bm w S r a q cs l' b' W':=
 ⟨h2,(g.block q (Array.getElem?_eq_some_iff.1 h.2).1 (fun e=>by injection e with e;exact hq e)).trans h.2⟩
theorem Bm.put {w W:World} {S:ByteArray} {r a q:Nat} {cs:Array Value} {l:List UInt8} {b:Bool} (h:Bm w S r a q cs l b W) (h1:r≠q) (h2:a≠q) (h3:w.heap.size<=q) (j:Nat) (u:Value):Bm w S r a q (cs.setIfInBounds j u) l b (W.setCell ⟨q,j,none⟩ u):=
 ⟨h.1.set h1 h2 h3 j u,heap_setCell_same W q j _ _ _ h.2⟩
def BdOut (S:ByteArray) (w:World) (e:Ending) (w':World):Prop:=∃a n c m ok,e= .returned (.tuple #[zag (.slice a n c) m,.bool ok])/\zae w' (.slice a n c) m.l/\(∀q,(Value.slice a n c).ownBlock=some q->w.heap.size<=q)/\MsB m/\Good S.data.toList m ok/\Below w.heap.size w w'
theorem res15 {W:World} {a:Nat} {T:TypeId} {d0 d1 d2 d3 d4 d5 d6 d7 d8 d9 d10 d11 d12 d13 d14:Value} (h:W.heap[a]?=some (.cells #[d0,d1,d2,d3,d4,d5,d6,d7,d8,d9,d10,d11,d12,d13,d14] T (0,0))) (c0 c1 c2 c3 c4 c5 c6 c7 c8 c9 c10 c11 c12 c13 c14:Value):(((((((((((((((W.setCell ⟨a,0,none⟩ c0).setCell ⟨a,1,none⟩ c1).setCell ⟨a,2,none⟩ c2).setCell ⟨a,3,none⟩ c3).setCell ⟨a,4,none⟩ c4).setCell ⟨a,5,none⟩ c5).setCell ⟨a,6,none⟩ c6).setCell ⟨a,7,none⟩ c7).setCell ⟨a,8,none⟩ c8).setCell ⟨a,9,none⟩ c9).setCell ⟨a,10,none⟩ c10).setCell ⟨a,11,none⟩ c11).setCell ⟨a,12,none⟩ c12).setCell ⟨a,13,none⟩ c13).setCell ⟨a,14,none⟩ c14).heap[a]?=some (.cells #[c0,c1,c2,c3,c4,c5,c6,c7,c8,c9,c10,c11,c12,c13,c14] T (0,0)):=by
 have h0:(W.setCell ⟨a,0,none⟩ c0).heap[a]?=some (.cells #[c0,d1,d2,d3,d4,d5,d6,d7,d8,d9,d10,d11,d12,d13,d14] T (0,0)):=heap_setCell_same _ a 0 _ _ _ h;have h1:((W.setCell ⟨a,0,none⟩ c0).setCell ⟨a,1,none⟩ c1).heap[a]?=some (.cells #[c0,c1,d2,d3,d4,d5,d6,d7,d8,d9,d10,d11,d12,d13,d14] T (0,0)):=heap_setCell_same _ a 1 _ _ _ h0;have h2:(((W.setCell ⟨a,0,none⟩ c0).setCell ⟨a,1,none⟩ c1).setCell ⟨a,2,none⟩ c2).heap[a]?=some (.cells #[c0,c1,c2,d3,d4,d5,d6,d7,d8,d9,d10,d11,d12,d13,d14] T (0,0)):=heap_setCell_same _ a 2 _ _ _ h1;have h3:((((W.setCell ⟨a,0,none⟩ c0).setCell ⟨a,1,none⟩ c1).setCell ⟨a,2,none⟩ c2).setCell ⟨a,3,none⟩ c3).heap[a]?=some (.cells #[c0,c1,c2,c3,d4,d5,d6,d7,d8,d9,d10,d11,d12,d13,d14] T (0,0)):=heap_setCell_same _ a 3 _ _ _ h2;have h4:(((((W.setCell ⟨a,0,none⟩ c0).setCell ⟨a,1,none⟩ c1).setCell ⟨a,2,none⟩ c2).setCell ⟨a,3,none⟩ c3).setCell ⟨a,4,none⟩ c4).heap[a]?=some (.cells #[c0,c1,c2,c3,c4,d5,d6,d7,d8,d9,d10,d11,d12,d13,d14] T (0,0)):=heap_setCell_same _ a 4 _ _ _ h3;have h5:((((((W.setCell ⟨a,0,none⟩ c0).setCell ⟨a,1,none⟩ c1).setCell ⟨a,2,none⟩ c2).setCell ⟨a,3,none⟩ c3).setCell ⟨a,4,none⟩ c4).setCell ⟨a,5,none⟩ c5).heap[a]?=some (.cells #[c0,c1,c2,c3,c4,c5,d6,d7,d8,d9,d10,d11,d12,d13,d14] T (0,0)):=heap_setCell_same _ a 5 _ _ _ h4;have h6:(((((((W.setCell ⟨a,0,none⟩ c0).setCell ⟨a,1,none⟩ c1).setCell ⟨a,2,none⟩ c2).setCell ⟨a,3,none⟩ c3).setCell ⟨a,4,none⟩ c4).setCell ⟨a,5,none⟩ c5).setCell ⟨a,6,none⟩ c6).heap[a]?=some (.cells #[c0,c1,c2,c3,c4,c5,c6,d7,d8,d9,d10,d11,d12,d13,d14] T (0,0)):=heap_setCell_same _ a 6 _ _ _ h5;have h7:((((((((W.setCell ⟨a,0,none⟩ c0).setCell ⟨a,1,none⟩ c1).setCell ⟨a,2,none⟩ c2).setCell ⟨a,3,none⟩ c3).setCell ⟨a,4,none⟩ c4).setCell ⟨a,5,none⟩ c5).setCell ⟨a,6,none⟩ c6).setCell ⟨a,7,none⟩ c7).heap[a]?=some (.cells #[c0,c1,c2,c3,c4,c5,c6,c7,d8,d9,d10,d11,d12,d13,d14] T (0,0)):=heap_setCell_same _ a 7 _ _ _ h6;have h8:(((((((((W.setCell ⟨a,0,none⟩ c0).setCell ⟨a,1,none⟩ c1).setCell ⟨a,2,none⟩ c2).setCell ⟨a,3,none⟩ c3).setCell ⟨a,4,none⟩ c4).setCell ⟨a,5,none⟩ c5).setCell ⟨a,6,none⟩ c6).setCell ⟨a,7,none⟩ c7).setCell ⟨a,8,none⟩ c8).heap[a]?=some (.cells #[c0,c1,c2,c3,c4,c5,c6,c7,c8,d9,d10,d11,d12,d13,d14] T (0,0)):=heap_setCell_same _ a 8 _ _ _ h7;have h9:((((((((((W.setCell ⟨a,0,none⟩ c0).setCell ⟨a,1,none⟩ c1).setCell ⟨a,2,none⟩ c2).setCell ⟨a,3,none⟩ c3).setCell ⟨a,4,none⟩ c4).setCell ⟨a,5,none⟩ c5).setCell ⟨a,6,none⟩ c6).setCell ⟨a,7,none⟩ c7).setCell ⟨a,8,none⟩ c8).setCell ⟨a,9,none⟩ c9).heap[a]?=some (.cells #[c0,c1,c2,c3,c4,c5,c6,c7,c8,c9,d10,d11,d12,d13,d14] T (0,0)):=heap_setCell_same _ a 9 _ _ _ h8;have h10:(((((((((((W.setCell ⟨a,0,none⟩ c0).setCell ⟨a,1,none⟩ c1).setCell ⟨a,2,none⟩ c2).setCell ⟨a,3,none⟩ c3).setCell ⟨a,4,none⟩ c4).setCell ⟨a,5,none⟩ c5).setCell ⟨a,6,none⟩ c6).setCell ⟨a,7,none⟩ c7).setCell ⟨a,8,none⟩ c8).setCell ⟨a,9,none⟩ c9).setCell ⟨a,10,none⟩ c10).heap[a]?=some (.cells #[c0,c1,c2,c3,c4,c5,c6,c7,c8,c9,c10,d11,d12,d13,d14] T (0,0)):=heap_setCell_same _ a 10 _ _ _ h9;have h11:((((((((((((W.setCell ⟨a,0,none⟩ c0).setCell ⟨a,1,none⟩ c1).setCell ⟨a,2,none⟩ c2).setCell ⟨a,3,none⟩ c3).setCell ⟨a,4,none⟩ c4).setCell ⟨a,5,none⟩ c5).setCell ⟨a,6,none⟩ c6).setCell ⟨a,7,none⟩ c7).setCell ⟨a,8,none⟩ c8).setCell ⟨a,9,none⟩ c9).setCell ⟨a,10,none⟩ c10).setCell ⟨a,11,none⟩ c11).heap[a]?=some (.cells #[c0,c1,c2,c3,c4,c5,c6,c7,c8,c9,c10,c11,d12,d13,d14] T (0,0)):=heap_setCell_same _ a 11 _ _ _ h10;have h12:(((((((((((((W.setCell ⟨a,0,none⟩ c0).setCell ⟨a,1,none⟩ c1).setCell ⟨a,2,none⟩ c2).setCell ⟨a,3,none⟩ c3).setCell ⟨a,4,none⟩ c4).setCell ⟨a,5,none⟩ c5).setCell ⟨a,6,none⟩ c6).setCell ⟨a,7,none⟩ c7).setCell ⟨a,8,none⟩ c8).setCell ⟨a,9,none⟩ c9).setCell ⟨a,10,none⟩ c10).setCell ⟨a,11,none⟩ c11).setCell ⟨a,12,none⟩ c12).heap[a]?=some (.cells #[c0,c1,c2,c3,c4,c5,c6,c7,c8,c9,c10,c11,c12,d13,d14] T (0,0)):=heap_setCell_same _ a 12 _ _ _ h11;have h13:((((((((((((((W.setCell ⟨a,0,none⟩ c0).setCell ⟨a,1,none⟩ c1).setCell ⟨a,2,none⟩ c2).setCell ⟨a,3,none⟩ c3).setCell ⟨a,4,none⟩ c4).setCell ⟨a,5,none⟩ c5).setCell ⟨a,6,none⟩ c6).setCell ⟨a,7,none⟩ c7).setCell ⟨a,8,none⟩ c8).setCell ⟨a,9,none⟩ c9).setCell ⟨a,10,none⟩ c10).setCell ⟨a,11,none⟩ c11).setCell ⟨a,12,none⟩ c12).setCell ⟨a,13,none⟩ c13).heap[a]?=some (.cells #[c0,c1,c2,c3,c4,c5,c6,c7,c8,c9,c10,c11,c12,c13,d14] T (0,0)):=heap_setCell_same _ a 13 _ _ _ h12;have h14:(((((((((((((((W.setCell ⟨a,0,none⟩ c0).setCell ⟨a,1,none⟩ c1).setCell ⟨a,2,none⟩ c2).setCell ⟨a,3,none⟩ c3).setCell ⟨a,4,none⟩ c4).setCell ⟨a,5,none⟩ c5).setCell ⟨a,6,none⟩ c6).setCell ⟨a,7,none⟩ c7).setCell ⟨a,8,none⟩ c8).setCell ⟨a,9,none⟩ c9).setCell ⟨a,10,none⟩ c10).setCell ⟨a,11,none⟩ c11).setCell ⟨a,12,none⟩ c12).setCell ⟨a,13,none⟩ c13).setCell ⟨a,14,none⟩ c14).heap[a]?=some (.cells #[c0,c1,c2,c3,c4,c5,c6,c7,c8,c9,c10,c11,c12,c13,c14] T (0,0)):=heap_setCell_same _ a 14 _ _ _ h13;exact h14
theorem zaZ {l l':List UInt8} {b b':Bool} {x:Int} (h:numD l b=(x,l',b')):I64 x/\0<=x/\l'.length<=l.length:=by
 have:=zcY l b;rw [h] at this;obtain ⟨h1,h2,h3⟩:=this;exact ⟨⟨by dsimp only at h1;omega,h2⟩,h1,h3⟩
theorem At_iff {S:ByteArray} {k:Nat} {l:List UInt8} (hk:k<=S.size) (hd:S.data.toList.drop k=l):l=[]↔k=S.size:=by
 have h:S.data.toList.length=S.size:=rfl;rw [<-hd,List.drop_eq_nil_iff];omega
def BdCut (S:ByteArray) (w:World) (r a q:Nat) (W:World):Prop:=
 ∃m va vn vc l b,Bm w S r a q #[.int .i64 m.k,.int .i64 m.f,.int .i64 m.t,.int .i64 m.i,.int .i64 m.p,.int .i64 m.q,.int .i64 m.a,.int .i64 m.wd,.int .i64 m.h,.int .i64 m.wt,.int .i64 m.x,.int .i64 m.z,.int .u32 m.s,.string m.d,.slice va vn vc] l b W/\zae W (.slice va vn vc) m.l/\(∀k,(Value.slice va vn vc).ownBlock=some k->r<k)/\MsB m/\∀ok:Bool,(ok=true↔b=false/\l=[])->Good S.data.toList m ok
def zbz:List UInt8->Nat
 | []=>0
 | b::t=>b.toNat+256*zbz t
theorem zea:∀l:List UInt8,zbz l<256^l.length
 | []=>by decide
 | b::t=>by
  have h:=zea t;have hb:=b.toNat_lt;show b.toNat+256*zbz t<256^(t.length+1);rw [Nat.pow_succ];omega
theorem sumTo_at {l:List UInt8} {k:Nat} (h:k<l.length):zbz (l.drop k)=(l[k]'h).toNat+256*zbz (l.drop (k+1)):=by
 rw [List.drop_eq_getElem_cons h]
 rfl
theorem zeH {l:List UInt8} (h:4<=l.length):zbz (l.take 4)=val4 l:=by
 match l,h with
 | a::b::c::d::t,_=>
  show a.toNat+256*(b.toNat+256*(c.toNat+256*(d.toNat+256*0)))=a.toNat+256*b.toNat+65536*c.toNat+16777216*d.toNat;omega
theorem zcr {W:World} {v:Value} {l:List Rp.Rec} (h:zae W v l):zae W.drew v l:=h
theorem za6 {W:World} {q:Nat} {x:Option Obj} (h:W.heap[q]?=x):W.drew.heap[q]?=x:=h
theorem za4:I64 0:=by unfold I64;omega
theorem i64_1:I64 1:=by unfold I64;omega
theorem zeB {l r t:List UInt8} {b b':Bool} (h:zaW 4 l b=(t,r,b')):t.length<=4:=by
 cases b
 · rw [zb2] at h
   by_cases h4:l.length<4
   · rw [zby false (by omega)] at h
     injection h with h _
     subst h
     simp
   · rw [zaV false (by omega)] at h
     injection h with h _
     subst h;rw [List.length_take];omega
 · rw [zbg] at h
   injection h with h _
   subst h
   simp
theorem ze7 {l t l':List UInt8} {b b':Bool} {n:Int} (hn:n=(l.length:Int)) (h:zaW n l b=(t,l',b')):b'=b/\(b=false->t=l/\l'=[])/\t.length<=l.length:=by
 subst hn
 cases b
 · rw [zb2,zaV false (Int.le_refl _),Int.toNat_natCast,List.take_length,List.drop_length] at h
   injection h with h1 h;injection h with h2 h3
   subst h1 h2 h3;exact ⟨rfl,fun _=>⟨rfl,rfl⟩,Nat.le_refl _⟩
 · rw [zbg] at h
   injection h with h1 h;injection h with h2 h3
   subst h1 h2 h3;exact ⟨rfl,(fun h=>by cases h),Nat.zero_le _⟩
theorem recD_eq {o y1 y2:Int} {l la lb ld y3:List UInt8} {b ba bb bd:Bool} (h1:numD l b=(y1,la,ba)) (h2:numD la ba=(y2,lb,bb)) (h3:zaW y2 lb bb=(y3,ld,bd)):recD o l b=(⟨o,y1,⟨y3.toArray⟩⟩,ld,bd):=by
 unfold recD;rw [h1];dsimp only;rw [h2];dsimp only;rw [h3]
theorem Rd.more {o:Nat->Int} {l0:List UInt8} {b0:Bool} {k:Nat} {xs:List Rp.Rec} {l la lb ld y3:List UInt8} {ba bb bd:Bool} {y1 y2:Int} (h:Rd o l0 b0 k xs l false) (h1:numD l false=(y1,la,ba)) (h2:numD la ba=(y2,lb,bb)) (h3:zaW y2 lb bb=(y3,ld,bd)):Rd o l0 b0 (k+1) (xs++[⟨o k,y1,⟨y3.toArray⟩⟩]) ld bd:=by
 have:=h.next
 rwa [recD_eq h1 h2 h3] at this
theorem zbk {w:World} {base k:Nat} {v:Value} {xs:List Rp.Rec} {o y:Int} {d:ByteArray} (h:w.ownsRow base 41 3 v (k+1) (zaj xs++[.int .i64 o,.int .i64 y,.string d])):w.ownsRow base 41 3 v (k+1) (zaj (xs++[⟨o,y,d⟩])):=by
 rw [zbj];exact h
theorem zero_B:MsB Wq.zero:=⟨za4,za4,za4,za4,za4,za4,za4,za4,za4,za4,za4,za4,by unfold Wq.zero;dsimp only;omega,by simp [Wq.zero,ByteArray.size]⟩
theorem wrap_64 (n:Int):IntKind.i64.wrap n=wrap64 n:=by rw [IntKind.wrap_i64];unfold wrap64;omega
theorem zdv {W:World} {base sz n:Nat} {e:TypeId} {v:Value} {xs:List Value} (h:W.ownsRow base e sz v n xs):W.drew.ownsRow base e sz v n xs:=h
theorem zeI {t:List UInt8} (h:t.length<=4) {k:Nat}:zbz (t.drop k)<4294967296:=by
 have h1:=zea (t.drop k);have h2:256^(t.drop k).length<=256^4:=Nat.pow_le_pow_right (by decide) (by rw [List.length_drop];omega);omega
theorem Bm.lt {w W:World} {S:ByteArray} {r a q:Nat} {cs:Array Value} {l:List UInt8} {b:Bool} (h:Bm w S r a q cs l b W):q<W.heap.size:=(Array.getElem?_eq_some_iff.1 h.2).1
theorem Bm.own {w W W':World} {S:ByteArray} {r a q:Nat} {cs:Array Value} {l:List UInt8} {b:Bool} {ob:Option Nat} (h:Bm w S r a q cs l b W) (g:W.grownBy W' ob) (hv:∀k,ob=some k->q<k) (h1:r<q) (h2:a<q) (h3:w.heap.size<=q):Bm w S r a q cs l b W':=by
 have ne:∀k,k<=q->some k≠ob:=fun k hk e=>by have:=hv k e.symm;omega
 obtain ⟨⟨kp,e1,e2,e3,e4,e5⟩,e6⟩:=h;exact ⟨⟨kp,e1,e2,(g.block r e3.lt (ne r (by omega))).trans e3,(g.block a (Array.getElem?_eq_some_iff.1 e4).1 (ne a (by omega))).trans e4,e5.grown g e5.size (fun k hk=>by have:=hv k hk;omega)⟩,(g.block q (Array.getElem?_eq_some_iff.1 e6).1 (ne q (Nat.le_refl _))).trans e6⟩
theorem Bm.drew {w W:World} {S:ByteArray} {r a q:Nat} {cs:Array Value} {l:List UInt8} {b:Bool} (h:Bm w S r a q cs l b W):Bm w S r a q cs l b W.drew:=⟨h.1.drew,h.2⟩
theorem Bm.alloc {w W:World} {S:ByteArray} {r a q:Nat} {cs:Array Value} {l:List UInt8} {b:Bool} (h:Bm w S r a q cs l b W) (o:Obj):Bm w S r a q cs l b (W.alloc o):=⟨h.1.alloc o,(Below.heap_alloc _ _ _ h.lt).trans h.2⟩
end Wr
end Go.Proofs.Ytmkdcpjlhphhiaa

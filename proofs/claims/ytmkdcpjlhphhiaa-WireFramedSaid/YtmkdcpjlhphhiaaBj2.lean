/-
  Parts of what the laws of this seat stand on:WirPlain,WirMsg,Base,List,ManVal,CrcRef.
-/
import Derived.Below
import Derived.BigQuiet
import Derived.Deep.QuietTactic
import Derived.Deep.RegionLaw
import Derived.IntWalk
import Derived.Laws.CopyRow
import Derived.Laws.IdiomCopy
import Derived.Laws.IdiomStrings
import Derived.Laws.NewBlocks
import Derived.Laws.Rows
import Derived.Lib.Hide
import Derived.Outline
import Derived.Test.YtmkdcpjlhphhiaaBj1
import Derived.Test.YtmkdcpjlhphhiaaProg
import Derived.WalkKit
import Derived.WalkSpells
set_option maxRecDepth 100000
set_option maxHeartbeats 6400000
namespace Go.Proofs.Ytmkdcpjlhphhiaa
namespace Wq
open Qm
structure Ms where
 k:Int
 f:Int
 t:Int
 i:Int
 p:Int
 q:Int
 a:Int
 wd:Int
 h:Int
 wt:Int
 x:Int
 z:Int
 s:Int
 d:ByteArray
 l:List Rp.Rec
def zero:Ms:=⟨0,0,0,0,0,0,0,0,0,0,0,0,0,⟨#[]⟩,[]⟩
structure Head (m:Ms):Prop where
 f0:0<=m.f
 f1:m.f<=7
 t0:0<=m.t
 t1:m.t<=7
 ne:m.f≠m.t
 i0:1<=m.i
 i1:m.i<=1099511627776
 p0:0<=m.p
 p1:m.p<=1099511627776
 q0:0<=m.q
 q1:m.q<=1099511627776
 a0:0<=m.a
 a1:m.a<=1099511627776
def zdK (a:Int) (l:List Rp.Rec):Prop:=l.length<=64/\∀i,i<l.length->Rp.Ok (l.getD i Rp.zero)/\(l.getD i Rp.zero).a=a+i
structure Fetch (m:Ms):Prop where
 k:m.k=1
 wd0:0<=m.wd
 wd1:m.wd<=65536
 wt0:0<=m.wt
 wt1:m.wt<=1099511627776
 x0:0<=m.x
 x1:m.x<=65536
 h:m.h=0
 z:m.z=0
 s:m.s=0
 d:m.d.size=0
 l:m.l=[]
structure Batch (m:Ms):Prop where
 k:m.k=2
 h0:0<=m.h
 h1:m.h<=1099511627776
 l:zdK m.a m.l
 wd:m.wd=0
 wt:m.wt=0
 x:m.x=0
 z:m.z=0
 s:m.s=0
 d:m.d.size=0
structure Chunk (m:Ms):Prop where
 k:m.k=3
 z0:1<=m.z
 z1:m.z<=65536
 x0:0<=m.x
 x1:m.x<=m.z
 d:m.d.size<=4096
 s0:0<=m.s
 s1:m.s<4294967296
 wd:m.wd=0
 h:m.h=0
 wt:m.wt=0
 l:m.l=[]
def Tail (m:Ms):Prop:=Fetch m\/Batch m\/Chunk m
def Ok (m:Ms):Prop:=Head m/\Tail m
theorem zcZ {d:ByteArray} (h:d.size=0):d=⟨#[]⟩:=by
 apply ByteArray.ext
 exact Array.eq_empty_of_size_eq_zero h
def recB (r:Rp.Rec):List UInt8:=puts [r.t,(r.d.size:Int)]++r.d.data.toList
def zaA (l:List Rp.Rec):List UInt8:=l.flatMap recB
theorem zdo:zaA []=[]:=rfl
theorem zcE (l:List Rp.Rec) (r:Rp.Rec):zaA (l++[r])=zaA l++recB r:=by unfold zaA;simp
theorem recB_len (r:Rp.Rec):(recB r).length<=18+r.d.size:=by
 unfold recB;rw [List.length_append];have:=zaC [r.t,(r.d.size:Int)];have e:r.d.data.toList.length=r.d.size:=rfl;simp only [List.length_cons,List.length_nil] at this;omega
theorem zck (l:List Rp.Rec) (h:∀r∈l,r.d.size<=64):(zaA l).length<=82*l.length:=by
 induction l with
 | nil=>simp [zaA]
 | cons r l ih=>
  have h1:=ih fun x hx=>h x (mcm hx);have h2:=recB_len r;have h3:=h r mcs;show (recB r++zaA l).length<=_;rw [List.length_append,List.length_cons];omega
theorem zdK.mem {a:Int} {l:List Rp.Rec} (h:zdK a l):∀r∈l,Rp.Ok r:=by
 intro r hr;obtain ⟨i,hi,rfl⟩:=List.getElem_of_mem hr;have:=(h.2 i hi).1
 rwa [show l.getD i Rp.zero=l[i] by simp [List.getD_eq_getElem?_getD,hi]] at this
def zan (m:Ms):List Int:=[m.k,m.f,m.t,m.i,m.p,m.q,m.a]
def za2 (m:Ms):List UInt8:=
 if m.k=1 then puts [m.wd,m.wt,m.x]
 else if m.k=2 then puts [m.h,(m.l.length:Int)]++zaA m.l
 else puts [m.z,m.x]++(Fr.four m.s.toNat++m.d.data.toList)
def body (m:Ms):List UInt8:=puts (zan m)++za2 m
theorem zce {m:Ms} (h:m.k=1):za2 m=puts [m.wd,m.wt,m.x]:=by unfold za2;rw [if_pos h]
theorem zcd {m:Ms} (h:m.k=2):za2 m=puts [m.h,(m.l.length:Int)]++zaA m.l:=by unfold za2;rw [if_neg (by omega),if_pos h]
theorem zcc {m:Ms} (h:m.k=3):za2 m=puts [m.z,m.x]++(Fr.four m.s.toNat++m.d.data.toList):=by unfold za2;rw [if_neg (by omega),if_neg (by omega)]
theorem kinds {m:Ms} (h:Ok m):m.k=1\/m.k=2\/m.k=3:=by
 rcases h.2 with h | h | h
 · exact .inl h.k
 · exact .inr (.inl h.k)
 · exact .inr (.inr h.k)
theorem zct {m:Ms} (h:Ok m):∀n∈zan m,0<=n/\n<=1099511627776:=by
 have hk:=kinds h;obtain ⟨f0,f1,t0,t1,_,i0,i1,p0,p1,q0,q1,a0,a1⟩:=h.1;intro n hn;unfold zan at hn;simp only [List.mem_cons,List.not_mem_nil,or_false] at hn;omega
theorem puts_pos (l:List Int):l.length<=(puts l).length:=by
 induction l with
 | nil=>simp [puts]
 | cons n l ih=>
  rw [zdt,List.length_append,List.length_cons];have:=Vp.put_len_pos n.toNat;omega
theorem zd7 {m:Ms} (h:Ok m):(za2 m).length<=5300:=by
 rcases h.2 with h | h | h
 · rw [zce h.k]
   have:=zaC [m.wd,m.wt,m.x]
   simp only [List.length_cons,List.length_nil] at this;omega
 · rw [zcd h.k,List.length_append]
   have:=zaC [m.h,(m.l.length:Int)]
   have h2:=zck m.l fun r hr=>(h.l.mem r hr).2.2.2.2;have h3:=h.l.1;simp only [List.length_cons,List.length_nil] at this;omega
 · rw [zcc h.k,List.length_append,List.length_append,Fr.four_len]
   have:=zaC [m.z,m.x]
   have h3:=h.d;have e:m.d.data.toList.length=m.d.size:=rfl;simp only [List.length_cons,List.length_nil] at this;omega
theorem body_len {m:Ms} (h:Ok m):7<=(body m).length/\(body m).length<=5400:=by
 have h1:=zaC (zan m);have h2:=puts_pos (zan m);have h3:=zd7 h;have e:(zan m).length=7:=rfl;unfold body;rw [List.length_append];omega
theorem body_may {m:Ms} (h:Ok m):Fr.May (body m).length:=by
 have:=body_len h;exact ⟨by omega,by omega⟩
/-! What a reader takes of a text, and goes bad for good. -/
def zaE (n:Int) (l:List UInt8) (b:Bool):List UInt8×List UInt8×Bool:=if (l.length:Int)<n then ([],l,true) else (l.take n.toNat,l.drop n.toNat,b)
theorem zby {n:Int} {l:List UInt8} (b:Bool) (h:(l.length:Int)<n):zaE n l b=([],l,true):=by unfold zaE;rw [if_pos h]
theorem zaV {n:Int} {l:List UInt8} (b:Bool) (h:n<=(l.length:Int)):zaE n l b=(l.take n.toNat,l.drop n.toNat,b):=by unfold zaE;rw [if_neg (by omega)]
theorem zcJ (n:Int) (l:List UInt8) (b:Bool):(zaE n l b).1.length<=l.length/\(zaE n l b).2.1.length<=l.length:=by
 unfold zaE
 split
 · exact ⟨by simp,Nat.le_refl _⟩
 · exact ⟨by simp [List.length_take];omega,by rw [List.length_drop];omega⟩
theorem zbq {n:Int} {l r t:List UInt8} {b:Bool} (h:zaE n l b=(t,r,false)) (h0:0<=n):b=false/\l=t++r/\(t.length:Int)=n:=by
 unfold zaE at h
 split at h
 · injection h with _ h;injection h with _ h;cases h
 · injection h with h1 h;injection h with h2 h3
   subst h1 h2
   refine ⟨h3,(List.take_append_drop _ _).symm,?_⟩;rw [List.length_take];omega
theorem zde (t r:List UInt8) (b:Bool):zaE (t.length:Int) (t++r) b=(t,r,b):=by
 rw [zaV b (by rw [List.length_append];omega),Int.toNat_natCast,List.take_left' rfl,List.drop_left' rfl]
def recR (o:Int) (l:List UInt8) (b:Bool):Rp.Rec×List UInt8×Bool:=
 (⟨o,(numR l b).1,⟨(zaE (numR (numR l b).2.1 (numR l b).2.2).1 (numR (numR l b).2.1 (numR l b).2.2).2.1 (numR (numR l b).2.1 (numR l b).2.2).2.2).1.toArray⟩⟩,(zaE (numR (numR l b).2.1 (numR l b).2.2).1 (numR (numR l b).2.1 (numR l b).2.2).2.1 (numR (numR l b).2.1 (numR l b).2.2).2.2).2)
theorem recR_in (o:Int) (l:List UInt8) (b:Bool):(recR o l b).2.1.length<=l.length/\0<=(recR o l b).1.t/\(recR o l b).1.t<=9223372036854775807/\(recR o l b).1.d.size<=l.length/\(recR o l b).1.a=o:=by
 obtain ⟨h1,h2,h3⟩:=zaY l b;obtain ⟨_,_,h4⟩:=zaY (numR l b).2.1 (numR l b).2.2;obtain ⟨h5,h6⟩:=zcJ (numR (numR l b).2.1 (numR l b).2.2).1 (numR (numR l b).2.1 (numR l b).2.2).2.1 (numR (numR l b).2.1 (numR l b).2.2).2.2
 have e:(recR o l b).1.d.size=(zaE (numR (numR l b).2.1 (numR l b).2.2).1 (numR (numR l b).2.1 (numR l b).2.2).2.1 (numR (numR l b).2.1 (numR l b).2.2).2.2).1.length:=by
  show (ByteArray.mk _).size=_
  simp [ByteArray.size]
 refine ⟨Nat.le_trans h6 (Nat.le_trans h4 h3),h1,h2,?_,rfl⟩;rw [e];exact Nat.le_trans h5 (Nat.le_trans h4 h3)
theorem zfo {o:Int} {l r:List UInt8} {b:Bool} {x:Rp.Rec} (h:recR o l b=(x,r,false)):b=false/\l=recB x++r:=by
 unfold recR at h
 injection h with h1 h2
 obtain ⟨h3,_,_⟩:=zaY (numR l b).2.1 (numR l b).2.2;obtain ⟨e1,e2,e3⟩:=zbq (t:=(zaE (numR (numR l b).2.1 (numR l b).2.2).1 (numR (numR l b).2.1 (numR l b).2.2).2.1 (numR (numR l b).2.1 (numR l b).2.2).2.2).1) (r:=r) (by rw [<-h2]) h3;obtain ⟨e4,e5⟩:=zaS (x:=(numR (numR l b).2.1 (numR l b).2.2).1) (r:=(numR (numR l b).2.1 (numR l b).2.2).2.1) (l:=(numR l b).2.1) (b:=(numR l b).2.2) (by rw [<-e1]);obtain ⟨e6,e7⟩:=zaS (x:=(numR l b).1) (r:=(numR l b).2.1) (l:=l) (b:=b) (by rw [<-e4]);refine ⟨e6,?_⟩;subst h1;unfold recB;dsimp only;rw [show ∀a c:Int,puts [a,c]=puts [a]++puts [c] from fun a c=>zaI [a] [c]];have e8:((⟨(zaE (numR (numR l b).2.1 (numR l b).2.2).1 (numR (numR l b).2.1 (numR l b).2.2).2.1 (numR (numR l b).2.1 (numR l b).2.2).2.2).1.toArray⟩:ByteArray).size:Int)=(numR (numR l b).2.1 (numR l b).2.2).1:=Eq.trans (by simp [ByteArray.size]) e3;rw [e8,List.append_assoc,List.append_assoc];show l=puts [(numR l b).1]++(puts [(numR (numR l b).2.1 (numR l b).2.2).1]++((zaE (numR (numR l b).2.1 (numR l b).2.2).1 (numR (numR l b).2.1 (numR l b).2.2).2.1 (numR (numR l b).2.1 (numR l b).2.2).2.2).1++r));rw [<-e2, <-e5];exact e7
theorem recR_put {o:Int} {x:Rp.Rec} (h:Rp.Ok x) (ho:x.a=o) (r:List UInt8) (b:Bool):recR o (recB x++r) b=(x,r,b):=by
 have n1:numR (recB x++r) b=(x.t,puts [(x.d.size:Int)]++(x.d.data.toList++r),b):=by
  unfold recB;rw [show puts [x.t,(x.d.size:Int)]=puts [x.t]++puts [(x.d.size:Int)] from zaI [x.t] [(x.d.size:Int)],List.append_assoc,List.append_assoc];exact zbE ⟨h.2.2.1,h.2.2.2.1⟩ _ _
 have n2:numR (puts [(x.d.size:Int)]++(x.d.data.toList++r)) b=((x.d.size:Int),x.d.data.toList++r,b):=zbE ⟨by omega,by have:=h.2.2.2.2;omega⟩ _ _;have n3:zaE (x.d.size:Int) (x.d.data.toList++r) b=(x.d.data.toList,r,b):=zde x.d.data.toList r b;unfold recR;rw [n1];dsimp only;rw [n2];dsimp only;rw [n3];dsimp only;rw [Rp.mk_toList, <-ho]
def zal (o:Nat->Int):Nat->List UInt8->Bool->List Rp.Rec×List UInt8×Bool
 | 0,l,b=>([],l,b)
 | k+1,l,b=>((zal o k l b).1++[(recR (o k) (zal o k l b).2.1 (zal o k l b).2.2).1],(recR (o k) (zal o k l b).2.1 (zal o k l b).2.2).2)
theorem zcj (o:Nat->Int) (l:List UInt8) (b:Bool):∀k,(zal o k l b).1.length=k
 | 0=>rfl
 | k+1=>by show ((zal o k l b).1++[_]).length=_;rw [List.length_append,zcj o l b k];rfl
def Taken (n:Nat) (x:Rp.Rec):Prop:=0<=x.t/\x.t<=9223372036854775807/\x.d.size<=n
theorem zee (o:Nat->Int) (l:List UInt8) (b:Bool):∀k,(∀x∈(zal o k l b).1,Taken l.length x/\∃i,x.a=o i)/\(zal o k l b).2.1.length<=l.length
 | 0=>⟨by simp [zal],Nat.le_refl _⟩
 | k+1=>by
  obtain ⟨h1,h2⟩:=zee o l b k;obtain ⟨h3,h4,h5,h6,h7⟩:=recR_in (o k) (zal o k l b).2.1 (zal o k l b).2.2;refine ⟨fun x hx=>?_,Nat.le_trans h3 h2⟩;have hx':x∈(zal o k l b).1++[(recR (o k) (zal o k l b).2.1 (zal o k l b).2.2).1]:=hx;rw [List.mem_append,List.mem_singleton] at hx'
  rcases hx' with hx' | rfl
  · exact h1 x hx'
  · exact ⟨⟨h4,h5,Nat.le_trans h6 h2⟩,k,h7⟩
theorem zbC (o:Nat->Int) (l:List UInt8) (b:Bool):∀k,(zal o k l b).2.2=false->b=false/\l=zaA (zal o k l b).1++(zal o k l b).2.1
 | 0,h=>⟨h,rfl⟩
 | k+1,h=>by
  have h':(recR (o k) (zal o k l b).2.1 (zal o k l b).2.2).2.2=false:=h;obtain ⟨h1,h2⟩:=zfo (x:=(recR (o k) (zal o k l b).2.1 (zal o k l b).2.2).1) (r:=(recR (o k) (zal o k l b).2.1 (zal o k l b).2.2).2.1) (o:=o k) (by rw [<-h']);obtain ⟨h3,h4⟩:=zbC o l b k h1;refine ⟨h3,?_⟩;show l=zaA ((zal o k l b).1++[_])++(recR (o k) (zal o k l b).2.1 (zal o k l b).2.2).2.1;rw [zcE,List.append_assoc, <-h2];exact h4
theorem zdn {o:Nat->Int} {L:List Rp.Rec} (h:∀i,i<L.length->Rp.Ok (L.getD i Rp.zero)/\(L.getD i Rp.zero).a=o i) (r:List UInt8) (b:Bool):∀k,k<=L.length->zal o k (zaA L++r) b=(L.take k,zaA (L.drop k)++r,b)
 | 0,_=>rfl
 | k+1,hk=>by
  have ih:=zdn h r b k (by omega);have e:L.drop k=L[k]::L.drop (k+1):=List.drop_eq_getElem_cons (by omega)
  have eg:L.getD k Rp.zero=L[k]:=by have:k<L.length:=hk;simp [List.getD_eq_getElem?_getD,this]
  have hk2:=h k hk;rw [eg] at hk2
  have hn:recR (o k) (zaA (L.drop k)++r) b=(L[k],zaA (L.drop (k+1))++r,b):=by
   rw [e,show zaA (L[k]::L.drop (k+1))=recB L[k]++zaA (L.drop (k+1)) from rfl,List.append_assoc];exact recR_put hk2.1 hk2.2 _ _
  show (_,_)=_;rw [ih];dsimp only;rw [hn,List.take_succ_eq_append_getElem (by omega)]
def za3 (o:Nat->Int) (l:List UInt8) (b:Bool):List Rp.Rec×List UInt8×Bool:=
 if 64<(numR l b).1 then ([],(numR l b).2.1,true) else zal o (numR l b).1.toNat (numR l b).2.1 (numR l b).2.2
theorem zcU {o:Nat->Int} {l:List UInt8} {b:Bool} (h:(za3 o l b).2.2=false):b=false/\l=puts [((za3 o l b).1.length:Int)]++(zaA (za3 o l b).1++(za3 o l b).2.1):=by
 obtain ⟨h0,_,_⟩:=zaY l b;unfold za3 at h ⊢
 split at h
 · cases h
 · rename_i hn
   rw [if_neg hn]
   obtain ⟨h1,h2⟩:=zbC _ _ _ _ h;obtain ⟨h3,h4⟩:=zaS (l:=l) (b:=b) (x:=(numR l b).1) (r:=(numR l b).2.1) (by rw [<-h1]);refine ⟨h3,?_⟩;rw [zcj,show (((numR l b).1.toNat:Nat):Int)=(numR l b).1 from by omega, <-h2];exact h4
theorem zfn {o:Nat->Int} {L:List Rp.Rec} (hl:L.length<=64) (h:∀i,i<L.length->Rp.Ok (L.getD i Rp.zero)/\(L.getD i Rp.zero).a=o i) (r:List UInt8) (b:Bool):za3 o (puts [(L.length:Int)]++(zaA L++r)) b=(L,r,b):=by
 have hn:numR (puts [(L.length:Int)]++(zaA L++r)) b=((L.length:Int),zaA L++r,b):=zbE ⟨by omega,by omega⟩ _ _;unfold za3;rw [hn];dsimp only;rw [if_neg (by omega),Int.toNat_natCast,zdn h r b L.length (Nat.le_refl _),List.take_length,List.drop_length]
 rfl
def m7 (L:List Int):Ms:=⟨L.getD 0 0,L.getD 1 0,L.getD 2 0,L.getD 3 0,L.getD 4 0,L.getD 5 0,L.getD 6 0,0,0,0,0,0,0,⟨#[]⟩,[]⟩
def zaQ (off:Int->Nat->Int) (m:Ms) (l:List UInt8) (b:Bool):Ms×List UInt8×Bool:=
 if m.k=1 then ({m with wd:=(segR 3 l b).1.getD 0 0,wt:=(segR 3 l b).1.getD 1 0,x:=(segR 3 l b).1.getD 2 0},(segR 3 l b).2)
 else if m.k=2 then ({m with h:=(numR l b).1,l:=(za3 (off m.a) (numR l b).2.1 (numR l b).2.2).1},(za3 (off m.a) (numR l b).2.1 (numR l b).2.2).2)
 else if m.k=3 then ({m with z:=(segR 2 l b).1.getD 0 0,x:=(segR 2 l b).1.getD 1 0,s:=(sumR (segR 2 l b).2.1 (segR 2 l b).2.2).1,d:=⟨(sumR (segR 2 l b).2.1 (segR 2 l b).2.2).2.1.toArray⟩},[],(sumR (segR 2 l b).2.1 (segR 2 l b).2.2).2.2)
 else (m,l,b)
def msgR (off:Int->Nat->Int) (l:List UInt8) (b:Bool):Ms×List UInt8×Bool:=zaQ off (m7 (segR 7 l b).1) (segR 7 l b).2.1 (segR 7 l b).2.2
variable {off:Int->Nat->Int}
theorem zbN {m:Ms} {l:List UInt8} {b:Bool} (h:m.k=1):zaQ off m l b=({m with wd:=(segR 3 l b).1.getD 0 0,wt:=(segR 3 l b).1.getD 1 0,x:=(segR 3 l b).1.getD 2 0},(segR 3 l b).2):=by unfold zaQ;rw [if_pos h]
theorem zbv {m:Ms} {l:List UInt8} {b:Bool} (h:m.k=2):zaQ off m l b=({m with h:=(numR l b).1,l:=(za3 (off m.a) (numR l b).2.1 (numR l b).2.2).1},(za3 (off m.a) (numR l b).2.1 (numR l b).2.2).2):=by unfold zaQ;rw [if_neg (by omega),if_pos h]
theorem zbM {m:Ms} {l:List UInt8} {b:Bool} (h:m.k=3):zaQ off m l b=({m with z:=(segR 2 l b).1.getD 0 0,x:=(segR 2 l b).1.getD 1 0,s:=(sumR (segR 2 l b).2.1 (segR 2 l b).2.2).1,d:=⟨(sumR (segR 2 l b).2.1 (segR 2 l b).2.2).2.1.toArray⟩},[],(sumR (segR 2 l b).2.1 (segR 2 l b).2.2).2.2):=by unfold zaQ;rw [if_neg (by omega),if_neg (by omega),if_pos h]
theorem zfb {m:Ms} {l:List UInt8} {b:Bool} (h1:m.k≠1) (h2:m.k≠2) (h3:m.k≠3):zaQ off m l b=(m,l,b):=by unfold zaQ;rw [if_neg h1,if_neg h2,if_neg h3]
theorem zbL (m:Ms) (l:List UInt8) (b:Bool):(zaQ off m l b).1.k=m.k:=by
 unfold zaQ
 split
 · rfl
 · split
   · rfl
   · split<;>rfl
theorem list3 {l:List Int} (h:l.length=3):l=[l.getD 0 0,l.getD 1 0,l.getD 2 0]:=by
 match l,h with
 | [a,b,c],_=>rfl
theorem list2 {l:List Int} (h:l.length=2):l=[l.getD 0 0,l.getD 1 0]:=by
 match l,h with
 | [a,b],_=>rfl
theorem list7 {l:List Int} (h:l.length=7):l=zan (m7 l):=by
 match l,h with
 | [a,b,c,d,e,f,g],_=>rfl
theorem zeG (m:Ms) (l:List UInt8) (b:Bool):zan (zaQ off m l b).1=zan m:=by
 unfold zaQ
 split
 · rfl
 · split
   · rfl
   · split<;>rfl
theorem zd8 {m:Ms} {l:List UInt8} {b:Bool} (hk:m.k=1\/m.k=2\/m.k=3) (h:(zaQ off m l b).2.2=false):b=false/\l=za2 (zaQ off m l b).1++(zaQ off m l b).2.1:=by
 rcases hk with hk | hk | hk
 · rw [zbN hk] at h ⊢
   dsimp only at h ⊢
   obtain ⟨h1,h2⟩:=zbO l b 3 h;refine ⟨h1,?_⟩;rw [zce (by exact hk)];dsimp only;rw [<-list3 (zb4 l b 3)];exact h2
 · rw [zbv hk] at h ⊢
   dsimp only at h ⊢
   obtain ⟨h1,h2⟩:=zcU h;obtain ⟨h3,h4⟩:=zaS (x:=(numR l b).1) (r:=(numR l b).2.1) (l:=l) (b:=b) (by rw [<-h1]);refine ⟨h3,?_⟩;rw [zcd (by exact hk)];dsimp only;rw [show ∀c e:Int,puts [c,e]=puts [c]++puts [e] from fun c e=>zaI [c] [e],List.append_assoc,List.append_assoc, <-h2];exact h4
 · rw [zbM hk] at h ⊢
   dsimp only at h ⊢
   obtain ⟨h1,h2⟩:=zfe h;obtain ⟨h3,h4⟩:=zbO l b 2 h1;refine ⟨h3,?_⟩;rw [zcc (by exact hk)];dsimp only;rw [<-list2 (zb4 l b 2),List.append_nil, <-h2];exact h4
theorem msgR_ok {l:List UInt8} {b:Bool} (hk:(msgR off l b).1.k=1\/(msgR off l b).1.k=2\/(msgR off l b).1.k=3) (h:(msgR off l b).2.2=false):b=false/\l=body (msgR off l b).1++(msgR off l b).2.1:=by
 have hk':=hk;unfold msgR at hk' h ⊢;rw [zbL] at hk';obtain ⟨h1,h2⟩:=zd8 hk' h;obtain ⟨h3,h4⟩:=zbO l b 7 h1;refine ⟨h3,?_⟩;unfold body;rw [zeG,List.append_assoc, <-h2, <-list7 (zb4 l b 7)];exact h4
theorem zc0 {m:Ms} (h:Ok m) (ho:∀i,i<64->off m.a i=m.a+i):msgR off (body m) false=(m,[],false):=by
 have hs:=zb3 (L:=zan m) (zct h) (za2 m) false 7 (Nat.le_refl _);have e7:(zan m).take 7=zan m:=rfl;have e8:puts ((zan m).drop 7)++za2 m=za2 m:=rfl;rw [e7,e8] at hs;unfold msgR;rw [show body m=puts (zan m)++za2 m from rfl,hs];dsimp only;obtain ⟨k,f,t,i,p,q,a,wd,hh,wt,x,z,s,d,l⟩:=m;have hk7:(m7 (zan ⟨k,f,t,i,p,q,a,wd,hh,wt,x,z,s,d,l⟩))=⟨k,f,t,i,p,q,a,0,0,0,0,0,0,⟨#[]⟩,[]⟩:=rfl;rw [hk7]
 rcases h.2 with h | h | h
 · obtain ⟨hk,w0,w1,t0,t1,x0,x1,h1,h2,h3,h4,h5⟩:=h
   dsimp only at*
   rw [zce (by exact hk),zbN (by exact hk)];have hs:=zb3 (L:=[wd,wt,x]) (fun n hn=>by simp only [List.mem_cons,List.not_mem_nil,or_false] at hn;omega) [] false 3 (Nat.le_refl _);rw [List.append_nil] at hs;rw [hs,zcZ h4,h1,h2,h3,h5]
   rfl
 · obtain ⟨hk,h0,h1,hl,w0,t0,x0,z0,s0,d0⟩:=h
   dsimp only at*
   rw [zcd (by exact hk),zbv (by exact hk)]
   have hn:numR (puts [hh,(l.length:Int)]++zaA l) false=(hh,puts [(l.length:Int)]++(zaA l++[]),false):=by
    rw [show puts [hh,(l.length:Int)]=puts [hh]++puts [(l.length:Int)] from zaI [hh] [(l.length:Int)],List.append_assoc,List.append_nil];exact zbE ⟨by omega,by omega⟩ _ _
   dsimp only;rw [hn];dsimp only;rw [zfn hl.1 (fun i hi=>⟨(hl.2 i hi).1,by rw [(hl.2 i hi).2,ho i (by have:=hl.1;omega)]⟩)];rw [zcZ d0,w0,t0,x0,z0,s0]
 · obtain ⟨hk,z0,z1,x0,x1,d0,s0,s1,w0,h0,t0,hl⟩:=h
   dsimp only at*
   rw [zcc (by exact hk),zbM (by exact hk)];have hs:=zb3 (L:=[z,x]) (fun n hn=>by simp only [List.mem_cons,List.not_mem_nil,or_false] at hn;omega) (Fr.four s.toNat++d.data.toList) false 2 (Nat.le_refl _);have e9:puts (([z,x]:List Int).drop 2)++(Fr.four s.toNat++d.data.toList)=Fr.four s.toNat++d.data.toList:=rfl;rw [e9] at hs;dsimp only;rw [hs];dsimp only;rw [sumR_put ⟨s0,s1⟩];dsimp only;rw [Rp.mk_toList,w0,h0,t0,hl]
   rfl
theorem body_inj (off:Int->Nat->Int) (ho:∀a i,0<=a->a<=1099511627776->i<64->off a i=a+i) {m n:Ms} (hm:Ok m) (hn:Ok n) (h:body m=body n):m=n:=by
 have h1:=zc0 (off:=off) hm fun i hi=>ho _ i hm.1.a0 hm.1.a1 hi;have h2:=zc0 (off:=off) hn fun i hi=>ho _ i hn.1.a0 hn.1.a1 hi;rw [h,h2] at h1
 injection h1 with h1 _
 exact h1.symm
theorem body_one {m n:Ms} (hm:Ok m) (hn:Ok n) (h:body m=body n):m=n:=body_inj (fun a i=>a+i) (fun _ _ _ _ _=>rfl) hm hn h
noncomputable def putW (m:Ms):List UInt8×Int:=by classical exact if Ok m then (Fr.fr (body m),0) else ([],1)
theorem zbs {m:Ms} (h:Ok m):putW m=(Fr.fr (body m),0):=by unfold putW;rw [if_pos h]
theorem zdU {m:Ms} (h:¬Ok m):putW m=([],1):=by unfold putW;rw [if_neg h]
theorem fr_inj {a b:Ms} (ha:Ok a) (hb:Ok b) (h:Fr.fr (body a)=Fr.fr (body b)):a=b:=by
 have h1:=Fr.nx_fr (body a) [] (body_may ha);have h2:=Fr.nx_fr (body b) [] (body_may hb);rw [List.append_nil] at h1 h2;rw [h,h2] at h1
 injection h1 with _ h1
 injection h1 with _ h1
 exact body_one ha hb h1.symm
noncomputable def getW (s:List UInt8):Ms×Int:=by
 classical exact match Fr.nx s with
  | (0,_,_)=>if h:∃m,Ok m/\Fr.fr (body m)=s then (h.choose,0) else (zero,3)
  | (e+1,_,_)=>(zero,((e+1:Nat):Int))
theorem zb6 {s:List UInt8} {e:Nat} (h:Fr.nx s=(e,0,[])) (he:e≠0):getW s=(zero,(e:Int)):=by
 unfold getW;rw [h];obtain ⟨e,rfl⟩:∃e',e=e'+1:=⟨e-1,by omega⟩
 rfl
theorem zfH {s:List UInt8} {j:Nat} {b:List UInt8} (h:Fr.nx s=(0,j,b)) (hn:¬ ∃m,Ok m/\Fr.fr (body m)=s):getW s=(zero,3):=by
 unfold getW;rw [h];dsimp only;rw [dif_neg hn]
theorem zc3 {m:Ms} (h:Ok m):getW (Fr.fr (body m))=(m,0):=by
 have h1:=Fr.nx_fr (body m) [] (body_may h);rw [List.append_nil] at h1;unfold getW;rw [h1];dsimp only;have hx:∃m',Ok m'/\Fr.fr (body m')=Fr.fr (body m):=⟨m,h,rfl⟩;rw [dif_pos hx];rw [fr_inj hx.choose_spec.1 h hx.choose_spec.2]
theorem zep (ho:∀a i,0<=a->a<=1099511627776->i<64->off a i=a+i) {s:List UInt8} {j:Nat} {b:List UInt8} (h:Fr.nx s=(0,j,b)) (hbad:(msgR off b false).2.2=true\/(msgR off b false).2.1≠[]\/j≠s.length\/ ¬Ok (msgR off b false).1):getW s=(zero,3):=by
 refine zfH h fun ⟨m,hm,e⟩=>?_;subst e;have h1:=Fr.nx_fr (body m) [] (body_may hm);rw [List.append_nil,h] at h1
 injection h1 with _ h1;injection h1 with hj hb
 subst hb;rw [zc0 hm fun i hi=>ho _ i hm.1.a0 hm.1.a1 hi] at hbad
 rcases hbad with hb | hb | hb | hb
 · cases hb
 · exact hb rfl
 · exact hb hj
 · exact hb hm
theorem zdC {s:List UInt8} {j:Nat} {b:List UInt8} (h:Fr.nx s=(0,j,b)) (h1:(msgR off b false).2.2=false) (h2:(msgR off b false).2.1=[]) (h3:j=s.length) (h4:Ok (msgR off b false).1):getW s=((msgR off b false).1,0):=by
 rcases Fr.nx_cases s with ⟨e,he,hx⟩ | ⟨j',b',he,_,_,_,hf⟩
 · rw [h] at he
   injection he with he
   omega
 · rw [h] at he
   injection he with _ he;injection he with hj hb
   subst hj hb;have e:=(msgR_ok (kinds h4) h1).2;rw [h2,List.append_nil] at e;rw [List.take_of_length_le (by omega)] at hf;rw [<-hf,e];rw [<-e];have:=zc3 h4;rw [<-e] at this;exact this
end Wq
section
open Go.RowKit
theorem zaw {w:World} (n:Nat):Below w.heap.size w (w.drewN n):=by
 induction n generalizing w with
 | zero=>exact Below.refl _ _
 | succ n ih=>exact ih.drew
theorem zaM {w w1 w2:World} (h:Below w.heap.size w w1) (k:Below w1.heap.size w1 w2):Below w.heap.size w w2:=h.trans (k.mono h.size)
theorem zaq {w w':World} {o:Obj} (h:Below (w.alloc o).heap.size (w.alloc o) w'):Below w.heap.size w w':=
 ((Below.refl _ _).alloc (Nat.le_refl _) _).trans (h.mono (by simp))
theorem zft {w w':World} {base:Nat} {e:TypeId} {size:Nat} {v:Value} {n:Nat} {xs:List Value} (h:w.ownsRow base e size v n xs) (b:Below w.heap.size w w'):w'.ownsRow base e size v n xs:=by
 refine h.kept (row:=none) ⟨b.os,b.tape,b.output,b.size,fun k hk _=>b.block k hk⟩ ?_
 cases v.ownBlock with
 | none=>exact .inl rfl
 | some k=>exact .inr (by simp)
theorem zaN (s:ByteArray) (a b:Nat):(s.extract a b).data.toList=(s.data.toList.drop a).take (b-a):=by
 simp
theorem zai (l:List UInt8):(ByteArray.mk l.toArray).size=l.length:=by simp [ByteArray.size]
theorem ext_drop (s:ByteArray) (q:Nat):(⟨(s.data.toList.drop q).toArray⟩:ByteArray)=s.extract q s.size:=by
 apply ByteArray.ext
 apply Array.ext'
 rw [zaN,List.take_of_length_le (by simp)]
theorem za7 (b off j:Nat):(⟨b,off,none⟩:Addr).add j=⟨b,off+j,none⟩:=by
 unfold Addr.add
 split<;>simp_all
structure Lay (α:Type) where
 enc:α->List Value
 k:Nat
 len:∀x,(enc x).length=k
 one:∀x,∀u∈enc x,u.oneCell'=true
 pos:0<k
 T:TypeId
 ok:α->Prop
 z:α
variable {α:Type} (Y:Lay α)
def Lay.vals (l:List α):List Value:=l.flatMap Y.enc
theorem Lay.vals_cons (x:α) (l:List α):Y.vals (x::l)=Y.enc x++Y.vals l:=rfl
theorem Lay.vals_drop (l:List α):∀i,(Y.vals l).drop (i*Y.k)=Y.vals (l.drop i):=by
 induction l with
 | nil=>intro i;simp [Lay.vals]
 | cons x l ih=>
  intro i
  cases i with
  | zero=>simp
  | succ i=>
   have hn:(i+1)*Y.k=(Y.enc x).length+i*Y.k:=by rw [Y.len,Nat.add_mul,Nat.one_mul,Nat.add_comm]
   rw [Lay.vals_cons,List.drop_succ_cons, <-ih i,hn,List.drop_length_add_append]
theorem Lay.vals_get (l:List α) (i j:Nat) (hi:i<l.length) (hj:j<Y.k):(Y.vals l)[i*Y.k+j]?=(Y.enc (l.getD i Y.z))[j]?:=by
 have e:l.getD i Y.z=l[i]:=by simp [List.getD_eq_getElem?_getD,hi]
 rw [e, <-List.getElem?_drop,Y.vals_drop,List.drop_eq_getElem_cons hi,Lay.vals_cons,List.getElem?_append_left (by rw [Y.len];exact hj)]
def IsL (w:World) (v:Value) (l:List α):Prop:=
 ∃a cap,v= .slice a l.length cap/\(l.length<=maxLen/\l.length<=cap)/\(∀x∈l,Y.ok x)/\
  (l=[]\/ ∃b off,a=some ⟨b,off,none⟩/\∀j u,(Y.vals l)[j]?=some u->w.cell? ⟨b,off+j,none⟩=some u)
variable {Y}
theorem IsL.below {B:Nat} {w w':World} {v:Value} {l:List α} (h:IsL Y w v l) (hb:Below B w w') (hB:w.heap.size<=B):IsL Y w' v l:=by
 obtain ⟨a,cap,rfl,h1,h2,h3⟩:=h;refine ⟨a,cap,rfl,h1,h2,?_⟩
 rcases h3 with h3 | ⟨b,off,rfl,h4⟩
 · exact .inl h3
 · refine .inr ⟨b,off,rfl,fun j u hj=>?_⟩
   have c:=h4 j u hj
   exact (hb.cell (p:=⟨b,off+j,none⟩) (Nat.lt_of_lt_of_le (block_lt_of_cell c) hB)).trans c
theorem IsL.keep {w w':World} {v:Value} {l:List α} (h:IsL Y w v l) (hb:Below w.heap.size w w'):IsL Y w' v l:=h.below hb (Nat.le_refl _)
theorem IsL.at_ {w:World} {b off n cap:Nat} {l:List α} (h:IsL Y w (.slice (some ⟨b,off,none⟩) n cap) l) {i:Nat} (hi:i<n):∀j u,(Y.enc (l.getD i Y.z))[j]?=some u->w.cell? ⟨b,off+i*Y.k+j,none⟩=some u:=by
 obtain ⟨a',cap',e,_,_,h3⟩:=h
 injection e with e1 e2 e3
 subst e2;intro j u hj
 have hjk:j<Y.k:=by rw [<-Y.len (l.getD i Y.z)];exact (List.getElem?_eq_some_iff.1 hj).1
 rcases h3 with rfl | ⟨b',off',e,h4⟩
 · simp at hi
 · rw [<-e1] at e
   injection e with e
   injection e with e1 e2
   subst e1 e2;have:=h4 (i*Y.k+j) u (by rw [Y.vals_get l i j hi hjk];exact hj)
   rwa [<-Nat.add_assoc] at this
theorem IsL.len {w:World} {a:Option Addr} {n cap:Nat} {l:List α} (h:IsL Y w (.slice a n cap) l):n=l.length/\l.length<=maxLen:=by
 obtain ⟨a',cap',e,h1,_⟩:=h
 injection e with e1 e2 e3
 exact ⟨e2,h1.1⟩
theorem zbG (w:World) (N:Nat) (cs:List Value) (T:TypeId) (h:w.heap.size=N):∀(j:Nat) (u:Value),cs[j]?=some u->(w.alloc (.cells cs.toArray T)).cell? ((⟨N,0,none⟩:Addr).add j)=some u:=by
 subst h;intro j u h
 have ea:(⟨w.heap.size,0,none⟩:Addr).add j=⟨w.heap.size,j,none⟩:=by unfold Addr.add;split<;>simp_all
 rw [ea,cell_of_row _ _ j cs.toArray T (0,0) (heap_alloc_new w _)]
 simpa using h
theorem zeC {l:List α} {k:Nat} {z:α} (h:k<l.length):l.take (k+1)=l.take k++[l.getD k z]:=by
 rw [List.take_succ_eq_append_getElem h]
 simp [List.getD_eq_getElem?_getD,h]
theorem zaR {P:Program} {ops:Array Oper} {o:Oper} {a:Act} {w:World} {K:Act->World->Prop} {Q:Exit->Act->World->Prop} {E:Prop}
 (hg:o.guard=none) (s x:Operand) (t:TypeId) (hop:o.op=Op.call {callee:=Callee.builtin Builtin.append,args:= #[s,x],argTypes:= #[t,t]})
 (base:Nat) (e:TypeId) (i:TypeInfo) (z:Value) (size bytes:Nat) (ht:P.underlying t=some (.slice e)) (hi:P.info? e=some i) (hz:i.zero=some z)
 (hsize:i.size=size) (hby:i.bytes=bytes) (hzs:z.cells.size=size) (hsz:0<size)
 (v:Value) (n:Nat) (xs:List Value) (hs:a.eval s=v) (hown:w.ownsRow base e size v n xs)
 (ad:Addr) (m c:Nat) (news:List Value) (hx:a.eval x= .slice (some ad) m c) (hl:news.length=m*size) (hnews:∀j u,news[j]?=some u->w.cell? (ad.add j)=some u) (h1:∀u∈news,u.oneCell'=true)
 (h63:n+m<=maxLen) (hbytes:(n+m)*bytes<=140737488355328) (hbase:base<=w.heap.size)
 (hK:∀v' w',w'.ownsRow base e size v' (n+m) (xs++news)->w.grownBy w' v.ownBlock->K (a.put o.dst v') w'):
 if Region.wanted o (yielded ops a.tmps)=true then Oper.wp P o a w K Q else E:=by
 have hw:Region.wanted o (yielded ops a.tmps)=true:=by simp [Region.wanted,hg]
 rw [if_pos hw];exact wp_append_own w s x t hop base e i z size bytes ht hi hz hsize hby hzs hsz v n xs hs hown ad m c news hx hl hnews h1 h63 hbytes hbase fun v' w' h2 h3 _=>hK v' w' h2 h3
end
namespace Mfs
open Go.RowKit Qm
def IL:Lay Int where
 enc:=fun n=>[.int .i64 n]
 k:=1
 len:=fun _=>rfl
 one:=by intro f u hu;rw [List.mem_singleton] at hu;subst hu;rfl
 pos:=by decide
 T:=3
 ok:=fun n=> -9223372036854775808<=n/\n<=9223372036854775807
 z:=0
theorem il_at {w:World} {fa:Option Addr} {fn fc:Nat} {l:List Int} (h:IsL IL w (.slice fa fn fc) l) {i:Nat} (hi:i<fn):
 ∃b off,fa=some ⟨b,off,none⟩/\w.cell? ⟨b,off+i,none⟩=some (.int .i64 (l.getD i 0)):=by
 have h':=h;obtain ⟨a',cap',e,_,_,h3⟩:=h
 injection e with e1 e2 e3
 rcases h3 with h3 | ⟨b,off,h4,_⟩
 · rw [h3] at e2;simp at e2;omega
 · subst e1
   subst h4
   have:=h'.at_ hi 0 _ rfl;rw [show off+i*IL.k+0=off+i from by show off+i*1+0=_;omega] at this;exact ⟨b,off,rfl,this⟩
theorem zdG (w:World) (a b:Nat):(w.drewN a).drewN b=w.drewN (a+b):=by unfold World.drewN;simp [Nat.add_assoc]
end Mfs
section
open Go.RowKit Go.Lib
theorem turn_xor {x:Nat} (h:x<4294967296):4294967295^^^x=Cp.turn x:=by
 unfold Cp.turn
 apply Nat.eq_of_testBit_eq
 intro i;have h1:=Nat.testBit_two_pow_sub_succ (n:=32) (x:=x) (by omega) i
 have e:2^32-(x+1)=4294967295-x:=by omega
 rw [e] at h1;rw [h1,Nat.testBit_xor,show 4294967295=2^32-1 from rfl,Nat.testBit_two_pow_sub_one]
 rcases Nat.lt_or_ge i 32 with hi | hi
 · simp [hi]
 · have:x.testBit i=false:=Nat.testBit_lt_two_pow (Nat.lt_of_lt_of_le (show x<2^32 from h) (Nat.pow_le_pow_right (by omega) hi))
   simp [this]
theorem za5 {x:Nat} (h:x<4294967296):bits .xor .u32 IntKind.u32.max (x:Int)=(Cp.turn x:Nat):=by
 rw [<-turn_xor h];exact u32_xor_nat 4294967295 x (by omega) h
theorem bit_odd {x:Nat} (h:x<4294967296) (ho:x%2=1):bits .xor .u32 ((x:Int)/2) 2197175160=(Cp.bit x:Nat):=by
 unfold Cp.bit;rw [ho,Nat.one_mul];exact u32_xor_nat (x/2) 2197175160 (by omega) (by omega)
theorem bit_even {x:Nat} (ho:¬x%2=1):Cp.bit x=x/2:=by
 unfold Cp.bit;rw [show x%2=0 from by omega,Nat.zero_mul,Nat.xor_zero]
theorem zfv (x:Nat) (s:ByteArray) (k:Nat) (h:k<s.size):Cp.on x (s.data.toList.take (k+1))=Cp.byte (Cp.on x (s.data.toList.take k)) s[k]:=by
 rw [List.take_succ_eq_append_getElem (by simpa using h),Cp.on_append];rfl
theorem ron_any (x:Nat) (s:ByteArray) (w:World) (hx:x<4294967296) (hs:s.size<=maxLen):
 Calls Try.prog 57 #[.int .u32 (x:Int),.string s] w fun e w'=>e= .returned (.int .u32 (Cp.sum x s.data.toList:Nat))/\w=w':=by
 unfold maxLen at hs;have ht:=za5 hx;have htl:=Cp.turn_lt x;obtain ⟨T,hT⟩:∃T,Cp.turn x=T:=⟨_,rfl⟩;rw [hT] at ht htl;have HT:=zid hT;clear hT;have HB:=zid ht;clear ht
 go_enter Try.func57,Try.ntmps57
 go_wp2
 go_loop [5,6] (fun a i=>∃k:Nat,k<=s.size/\i= .int .i64 k/\a= .int .u32 (Cp.on T (s.data.toList.take k):Nat)) (fun _ i=>s.size-(RowKit.intOf i).toNat)
 case atStart=>exact ⟨0,Nat.zero_le _,rfl,congrArg (Value.int .u32) HB.out⟩
 case round=>
  obtain ⟨k,hk,rfl,rfl⟩:=hrel;have hX:=Cp.on_lt (s.data.toList.take k) htl;obtain ⟨X,hXe⟩:∃X,Cp.on T (s.data.toList.take k)=X:=⟨_,rfl⟩;have HX:=zid hXe;rw [hXe] at hX ⊢;clear hXe
  by_cases hlt:k<s.size
  · have HS:=zid (zfv T s k hlt)
    have hb:=s[k].toNat_lt
    have hxor:=u32_xor_nat X s[k].toNat (by omega) (by omega)
    go_wp2
    obtain ⟨Y,hYe⟩:∃Y,X^^^s[k].toNat=Y:=⟨_,rfl⟩
    have hY:Y<4294967296:=by rw [<-hYe];exact Nat.xor_lt_two_pow (show X<2^32 from hX) (by omega)
    have HY:=zid hYe;rw [hYe];clear hxor hYe hb
    go_loop [5,7] (fun a j=>∃i:Nat,i<=8/\j= .int .i64 i/\a= .int .u32 (Cp.bitN i Y:Nat)) (fun _ j=>8-(RowKit.intOf j).toNat)
    case atStart=>exact ⟨0,Nat.zero_le _,rfl,rfl⟩
    case round=>
     obtain ⟨i,hi,rfl,rfl⟩:=hrel;have hZ:=Cp.bitN_lt i hY;have HN:=zid (Cp.bitN_succ' i Y)
     by_cases hi8:i<8
     · obtain ⟨Z,hZe⟩:∃Z,Cp.bitN i Y=Z:=⟨_,rfl⟩
       rw [hZe] at hZ HN ⊢
       clear hZe
       by_cases hodd:Z%2=1
       · have hbit:=bit_odd hZ hodd
         have hodd':((Z:Int)%2==1)=true:=by simp;omega
         clear hodd
         go_wp2
         go_round
         case rel=>exact ⟨i+1,by omega,by go_num,by rw [HN.out]⟩
         case measure=>simp [RowKit.intOf];omega
       · have hbit:=zid (bit_even hodd)
         have hodd':((Z:Int)%2==1)=false:=by simp;omega
         clear hodd
         go_wp2
         go_round
         case rel=>exact ⟨i+1,by omega,by go_num,by rw [HN.out,hbit.out];go_num⟩
         case measure=>simp [RowKit.intOf];omega
     · have hi':i=8:=by omega
       subst hi'
       go_wp2
       go_round
       case rel=>exact ⟨k+1,by omega,by go_num,by rw [HS.out,HX.out, <-HY.out];rfl⟩
       case measure=>simp [RowKit.intOf];omega
  · have hlen:k=s.size:=by omega
    have HR:=zid hlen
    clear hlen
    go_wp2
    go_ret;refine ⟨?_,rfl⟩;refine congrArg (fun z=>Ending.returned (.int .u32 z)) ?_;rw [za5 hX, <-HX.out, <-HT.out,HR.out];unfold Cp.sum;rw [List.take_of_length_le (by simp)]
end
end Go.Proofs.Ytmkdcpjlhphhiaa
